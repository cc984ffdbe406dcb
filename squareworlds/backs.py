"""What brings a world back, and what the lot is like for it."""

from squareworlds.deeds import LETTERS, check_letters, led, word_of
from squareworlds.errors import TooMany
from squareworlds.listings import chained, rounds, undone
from squareworlds.lots import MOST_WORLDS, lot_rows
from squareworlds.worlds import are_alike, least_form


def brings_back(world, value):
    """Tell whether a word with this matrix leads to a world alike to it."""
    return are_alike(led(world, word_of(value)), world)


def back_time(world, word):
    """Return how many times, at least once, a word must be done for the world
    to come to one alike to it."""
    check_letters(word, LETTERS)
    goal = least_form(world)
    there = world
    for times in range(1, MOST_WORLDS + 1):
        there = led(there, word)
        if least_form(there) == goal:
            return times
    raise TooMany(MOST_WORLDS)


def widths(world):
    """Return the numbers of worlds in the rounds of "a", the lesser ones first."""
    lean = lot_rows(world)[0]
    return tuple(sorted([len(told) for told in rounds(lean)]))


def lot_shape(world):
    """Return (d, e, f, g, h): the number of pairs and single worlds by "cc",
    what "c" and what "aB" leaves of them, the rounds of "a", and what follows."""
    lean, lift, turn = lot_rows(world)
    half = chained(turn, turn)
    turned = _among_pairs(turn, half)
    d = len(turned)
    e = _left_where_they_are(turned)
    f = _left_where_they_are(_among_pairs(chained(lean, undone(lift)), half))
    g = len(rounds(_among_pairs(lean, half)))
    return (d, e, f, g, (12 + d - 3 * e - 4 * f - 6 * g) // 12)


def _among_pairs(listing, half):
    """Return what a listing of worlds makes of the pairs {i, half[i]}, which
    are numbered by the sequence of their lesser worlds."""
    lesser = [place for place, mate in enumerate(half) if place <= mate]
    images = [min(listing[place], half[listing[place]]) for place in lesser]
    return tuple([lesser.index(image) for image in images])


def _left_where_they_are(listing):
    return len([place for place, entry in enumerate(listing) if place == entry])
