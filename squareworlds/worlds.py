"""Worlds: what they are, and which of them are alike."""

from squareworlds.errors import NotWorld
from squareworlds.listings import first_wrong, undone


def world_breach(value):
    """Return None for a world, otherwise the first broken rule and its place."""
    if not _has_form(value):
        return ("form", -1)
    for rule, entries in zip(("right", "up"), value):
        place = first_wrong(entries)
        if place is not None:
            return (rule, place)
    met = met_from(value, 0)
    for square in range(len(value[0])):
        if square not in met:
            return ("apart", square)
    return None


def _has_form(value):
    """Tell whether a value is a pair of tuples of one length, from 1 to 8."""
    if not isinstance(value, tuple) or len(value) != 2:
        return False
    right, up = value
    if not isinstance(right, tuple) or not isinstance(up, tuple):
        return False
    return 1 <= len(right) <= 8 and len(right) == len(up)


def check_world(value):
    """Return the value if it is a world, otherwise raise NotWorld."""
    breach = world_breach(value)
    if breach is not None:
        rule, place = breach
        raise NotWorld(rule, place)
    return value


def renamed(world, listing):
    """Return the world whose square k is the square listing[k]."""
    right, up = world
    names = undone(listing)
    return (
        tuple([names[right[square]] for square in listing]),
        tuple([names[up[square]] for square in listing]),
    )


def met_from(world, square):
    """Return the squares in the sequence in which they are met from one."""
    right, up = world
    met = [square]
    at = 0
    while at < len(met):
        here = met[at]
        for near in (right[here], up[here]):
            if near not in met:
                met.append(near)
        at += 1
    return tuple(met)


def least_form(world):
    """Return the least of the worlds that come by renaming from each square."""
    return min([_form_from(world, square) for square in range(len(world[0]))])


def _form_from(world, square):
    """Return the world with its squares numbered as they are met."""
    return renamed(world, met_from(world, square))


def starts(world):
    """Return the squares from which renaming gives the least form."""
    forms = [_form_from(world, square) for square in range(len(world[0]))]
    least = min(forms)
    return tuple([square for square, form in enumerate(forms) if form == least])


def are_alike(one, other):
    """Tell whether renaming leads from one world to the other."""
    return least_form(one) == least_form(other)
