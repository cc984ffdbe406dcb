"""Half turns of a world, and what they leave where it is."""

from squareworlds.corners import corner_indices, corners, holes, kind
from squareworlds.covers import maps
from squareworlds.deeds import led
from squareworlds.errors import NotHalfTurn, NotKind
from squareworlds.listings import chained, is_whole_tuple, undone


def half_turns(world):
    """Return all half turns, ascending."""
    # Turned by two quarters, right and up lead where left and down led.
    return maps(world, led(world, "cc"))


def stays(world, half_turn):
    """Return the squares whose middle, whose right side and whose upper side
    a half turn leaves where it is, and the corners that it leaves so."""
    if not is_whole_tuple(half_turn) or half_turn not in half_turns(world):
        raise NotHalfTurn("no half turn of this world")
    right, up = world
    return (
        _agreeing(half_turn, tuple(range(len(right)))),
        _agreeing(half_turn, right),
        _agreeing(half_turn, up),
        _corners_left(world, half_turn),
    )


def _agreeing(half_turn, entries):
    """Return the squares to which both give the same."""
    return tuple([s for s, entry in enumerate(entries) if half_turn[s] == entry])


def _corners_left(world, half_turn):
    """Return the corners that a half turn leaves where they are."""
    left = undone(world[0])
    down = undone(world[1])
    indices = corner_indices(world)
    found = []
    for index, corner in enumerate(corners(world)):
        if indices[left[down[half_turn[corner[0]]]]] == index:
            found.append(index)
    return tuple(found)


def is_twofold(world):
    """Tell whether a world has a half turn that makes it twofold."""
    return twofold_turn(world) is not None


def twofold_turn(world):
    """Return the first half turn that, done twice, leaves each square where it
    is, and leaves as many points as can be; None if there is none."""
    squares = tuple(range(len(world[0])))
    for half_turn in half_turns(world):
        many = sum([len(told) for told in stays(world, half_turn)])
        if chained(half_turn, half_turn) == squares and many == 2 * holes(world) + 2:
            return half_turn
    return None


def whole_stays(world):
    """Return how many corners the half turn of a world of the kind (3,) leaves."""
    if kind(world) != (3,):
        raise NotKind("not of the kind (3,)")
    return len(stays(world, twofold_turn(world))[3])
