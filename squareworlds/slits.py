"""Slits, by which two worlds are glued crosswise."""

from squareworlds.covers import MOST_SQUARES
from squareworlds.errors import TooMany


def slit(one, s, other, t):
    """Return both worlds glued crosswise along the upper side of a square s of
    the one and of a square t of the other one."""
    many = len(one[0])
    if many + len(other[0]) > MOST_SQUARES:
        raise TooMany(MOST_SQUARES)
    right = list(one[0]) + [many + square for square in other[0]]
    up = list(one[1]) + [many + square for square in other[1]]
    up[s], up[many + t] = up[many + t], up[s]
    return (tuple(right), tuple(up))
