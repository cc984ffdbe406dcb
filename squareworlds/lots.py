"""Lots: the worlds to which words lead, and the ways from world to world."""

from squareworlds.corners import kind
from squareworlds.deeds import led
from squareworlds.errors import TooMany
from squareworlds.worlds import least_form

MOST_WORLDS = 500
# In the sequence of strings, so that the ways met first are the first ones.
WAY_LETTERS = "ABab"


def lot(world):
    """Return the least forms of all worlds to which words lead."""
    # "c" leads where "aBa" leads, and "a" and "b" done often enough undo
    # themselves, so these two letters lead to all of them.
    return tuple(sorted(list(ways_from(world, "ab"))))


def ways_from(world, letters):
    """Return a dict from each world of the lot, as it is met, to the first of
    the shortest words of these letters that lead to it."""
    start = least_form(world)
    ways = {start: ""}
    met = [start]
    at = 0
    while at < len(met):
        here = met[at]
        for letter in letters:
            near = least_form(led(here, letter))
            if near not in ways:
                if len(met) == MOST_WORLDS:
                    raise TooMany(MOST_WORLDS)
                ways[near] = ways[here] + letter
                met.append(near)
        at += 1
    return ways


def lot_rows(world):
    """Return, for "a", "b" and "c", where they lead within the lot, by index."""
    forms = lot(world)
    places = {form: index for index, form in enumerate(forms)}
    rows = []
    for letter in "abc":
        rows.append(tuple([places[least_form(led(form, letter))] for form in forms]))
    return tuple(rows)


def are_of_one_lot(one, other):
    """Tell whether the other world is alike to one of the lot of the one."""
    return way(one, other) is not None


def way(one, other):
    """Return the first word of the letters "A", "B", "a" and "b" that leads
    from one world to a world alike to the other, None if there is none."""
    if len(one[0]) != len(other[0]) or kind(one) != kind(other):
        return None
    return ways_from(one, WAY_LETTERS).get(least_form(other))


def lengths_from(world):
    """Return how many worlds of the lot have a way of 0, 1, .. letters."""
    lengths = [len(word) for word in ways_from(world, WAY_LETTERS).values()]
    return tuple([lengths.count(length) for length in range(max(lengths) + 1)])
