"""Rows, and the long rooms that they make up, in each direction."""

from math import gcd

from squareworlds.corners import corners, kind
from squareworlds.deeds import led, word_along
from squareworlds.listings import rounds


def rows_of(world):
    """Return the rows, ascending, each begun with its least square."""
    return rounds(world[0])


def rooms(world):
    """Return the rooms, ascending, each as its rows from the lowest one up."""
    above = _rows_above(world)
    if kind(world) == ():
        lowest = rows_of(world)[:1]
    else:
        covering = list(above.values())
        lowest = [row for row in rows_of(world) if row not in covering]
    return tuple([_room_from(row, above) for row in lowest])


def _rows_above(world):
    """Return a dict from each row that is open above to the row above it."""
    right, up = world
    rows = rows_of(world)
    plain = [corner[0] for corner in corners(world) if len(corner) == 1]
    above = {}
    for row in rows:
        if all([square in plain for square in row]):
            above[row] = [near for near in rows if up[row[0]] in near][0]
    return above


def _room_from(row, above):
    """Return the rows from the lowest one up, as far as they are open above.

    In a world without great corners the row above the highest one is the
    lowest one again."""
    room = [row]
    while room[-1] in above and above[room[-1]] != row:
        room.append(above[room[-1]])
    return tuple(room)


def room_sizes(world):
    """Return the pairs (width, height) of all rooms, the lesser ones first."""
    return tuple(sorted([(len(room[0]), len(room)) for room in rooms(world)]))


def room_sizes_along(world, direction):
    """Return the room sizes behind a word that leads a direction to (1, 0)."""
    p, q = direction
    return room_sizes(led(world, word_along(p, q)))


def seams(world, direction):
    """Return the number of rooms along a direction."""
    return len(room_sizes_along(world, direction))


def directions_of(world, many):
    """Return the directions with entries from 0 to many along which the world
    has just one room."""
    found = []
    for p in range(many + 1):
        for q in range(many + 1):
            if gcd(p, q) == 1 and seams(world, (p, q)) == 1:
                found.append((p, q))
    return tuple(found)
