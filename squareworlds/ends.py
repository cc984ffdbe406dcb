"""The ends of a lot, and words of which all that bring a world back come."""

from squareworlds.deeds import led, undoing, word_along
from squareworlds.listings import rounds
from squareworlds.lots import WAY_LETTERS, lot, lot_rows, ways_from
from squareworlds.worlds import least_form


def ends(world):
    """Return the rounds of "a" in the lot, by indices, ascending."""
    return rounds(lot_rows(world)[0])


def end_of(world, direction):
    """Return the index of the end to which a direction leads."""
    p, q = direction
    place = lot(world).index(least_form(led(world, word_along(p, q))))
    return [place in end for end in ends(world)].index(True)


def back_words(world):
    """Return, for each world of the lot and then for "a" and "b", the way to
    it, the letter, and the way from there undone, unless that is no detour."""
    ways = ways_from(world, WAY_LETTERS)
    words = []
    for form in sorted(ways):
        for letter in "ab":
            there = ways[form] + letter
            straight_there = ways[least_form(led(form, letter))]
            if there != straight_there:
                words.append(there + undoing(straight_there))
    return tuple(words)
