"""Lists of all worlds of a few squares, by turns and by lots, and all kinds."""

from itertools import permutations

from squareworlds.corners import corners
from squareworlds.lots import lot
from squareworlds.numbers import all_parts, joined_count
from squareworlds.worlds import least_form, met_from


def worlds(n):
    """Return the least forms of all worlds of n squares, ascending."""
    forms = []
    # Each world is alike to one of which right is told by its turns alone.
    for rows in all_parts(n):
        right = _listing_with(rows)
        for up in permutations(range(n)):
            if len(met_from((right, up), 0)) == n:
                forms.append(least_form((right, up)))
    return tuple(sorted(set(forms)))


def _listing_with(turns):
    """Return a listing with these turns."""
    listing = []
    for turn in turns:
        first = len(listing)
        listing = listing + [first + (place + 1) % turn for place in range(turn)]
    return tuple(listing)


def worlds_of(turns):
    """Return the least forms of the worlds whose around has these turns."""
    return tuple([form for form in worlds(sum(turns)) if _turns_of(form) == turns])


def _turns_of(world):
    return tuple(sorted([len(corner) for corner in corners(world)], reverse=True))


def all_lots(n):
    """Return the lots of all worlds of n squares, ascending."""
    return tuple(sorted({lot(form) for form in worlds(n)}))


def kinds(n):
    """Return all kinds that worlds of n squares have, descending."""
    found = []
    for turns in all_parts(n):
        if joined_count(turns) > 0:
            found.append(tuple([turn for turn in turns if turn > 1]))
    return tuple(sorted(found, reverse=True))
