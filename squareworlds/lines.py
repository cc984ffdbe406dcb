"""Straight lines as walks, and their lengths from corner to corner."""

from squareworlds.deeds import MOST_LETTERS, led, word_along
from squareworlds.errors import TooLong
from squareworlds.lengths import directions_to
from squareworlds.listings import round_from, tally
from squareworlds.pieces import pieces
from squareworlds.straights import chords, letters_over


def step_walk(p, q):
    """Return the walk of a straight step through the squares that it crosses."""
    return letters_over(p, q)


def piece_walk(world, piece, p, q):
    """Return the round walk along the round of a piece."""
    letters = []
    for place in round_from(pieces(world, p, q), piece):
        letters.append("r" * ((place % q + p) // q) + "u")
    walk = "".join(letters)
    if len(walk) > MOST_LETTERS:
        raise TooLong(MOST_LETTERS)
    return walk


def chords_to(world, most):
    """Return the pairs (square of a length, how many chords have it), ascending."""
    squares = []
    for (p, q), unit in directions_to(most):
        # The chords along a direction are as many steps long as those to the
        # right behind a word that leads it there.
        for steps in chords(led(world, word_along(p, q)), 1, 0):
            if steps * steps * unit <= most:
                squares.append(steps * steps * unit)
    return tally(squares)
