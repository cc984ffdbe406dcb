"""Rooms that are twisted, raised and lowered."""

from squareworlds.covers import MOST_SQUARES
from squareworlds.deeds import led
from squareworlds.errors import NotHigh, TooMany
from squareworlds.lots import MOST_WORLDS
from squareworlds.rooms import rooms
from squareworlds.worlds import least_form


def twisted(world, k, times):
    """Return the world in which a room is turned about itself."""
    right, up = world
    row = rooms(world)[k][-1]
    above = list(up)
    for place, square in enumerate(row):
        above[square] = up[row[(place - times) % len(row)]]
    return (right, tuple(above))


def raised(world, k, more):
    """Return the world in which so many rows are put on a room."""
    right = list(world[0])
    up = list(world[1])
    row = rooms(world)[k][-1]
    if len(right) + more * len(row) > MOST_SQUARES:
        raise TooMany(MOST_SQUARES)
    above = [up[square] for square in row]
    for _ in range(more):
        first = len(right)
        for place, square in enumerate(row):
            up[square] = first + place
        row = [first + place for place in range(len(above))]
        right.extend(row[1:] + row[:1])
        up.extend(above)
    return (tuple(right), tuple(up))


def lowered(world, k):
    """Return the world in which the highest row is taken out of a room."""
    right, up = world
    room = rooms(world)[k]
    if len(room) == 1:
        raise NotHigh("the room has just one row")
    kept = [square for square in range(len(right)) if square not in room[-1]]
    above = [up[square] for square in kept]
    above = [up[square] if square in room[-1] else square for square in above]
    return (
        tuple([kept.index(right[square]) for square in kept]),
        tuple([kept.index(square) for square in above]),
    )


def twist_lot(world):
    """Return the least forms of all worlds to which one comes by twisting
    single rooms and by "c"."""
    forms = [least_form(world)]
    met = {forms[0]: True}
    at = 0
    while at < len(forms):
        for near in _near_forms(forms[at]):
            if near not in met:
                if len(forms) == MOST_WORLDS:
                    raise TooMany(MOST_WORLDS)
                met[near] = True
                forms.append(near)
        at += 1
    return tuple(sorted(forms))


def _near_forms(world):
    """Return the least forms of what comes by "c" and by one room twisted once."""
    near = [led(world, "c")]
    for k in range(len(rooms(world))):
        near.append(twisted(world, k, 1))
    return [least_form(form) for form in near]
