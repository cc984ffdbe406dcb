"""Squareworlds: worlds glued of equal squares."""
