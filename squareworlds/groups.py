"""The group of a world: all listings that come of right and up."""

from squareworlds.covers import moves, over_all
from squareworlds.listings import chained, first_wrong, undone
from squareworlds.worlds import least_form


def group_order(world):
    """Return how many listings the group has."""
    order = 1
    for row in _table_of(world):
        order *= 1 + len(row)
    return order


def _table_of(world):
    """Return, square by square, a dict from each other square to which a
    listing of the group leads the square while it leaves the lesser ones where
    they are, to one such listing.

    Each listing of the group is in one way made up of at most one of each
    row, those of the last row first. This is so as soon as it is so for two of
    them, one behind the other (Furst, Hopcroft and Luks)."""
    table = [{} for _ in world[0]]
    members = []
    waiting = list(world)
    while waiting:
        rest = _rest_of(table, waiting.pop())
        square = _first_moved(rest)
        if square is not None:
            table[square][rest[square]] = rest
            members.append(rest)
            for other in members:
                waiting.append(chained(rest, other))
                waiting.append(chained(other, rest))
    return table


def _rest_of(table, listing):
    """Return what is left of a listing when listings of the table are taken
    off it, row by row, as long as there are such: it leaves each square where
    it is if the listing is made up of listings of the table."""
    for square, row in enumerate(table):
        there = listing[square]
        if there != square:
            if there not in row:
                return listing
            listing = chained(listing, undone(row[there]))
    return listing


def _first_moved(listing):
    """Return the first square that a listing does not leave where it is."""
    for square, there in enumerate(listing):
        if square != there:
            return square
    return None


def in_group(world, value):
    """Tell whether a value is a listing of the group."""
    if not isinstance(value, tuple) or len(value) != len(world[0]):
        return False
    if first_wrong(value) is not None:
        return False
    return _first_moved(_rest_of(_table_of(world), value)) is None


def still_order(world):
    """Return how many listings of the group leave square 0 where it is."""
    return group_order(world) // len(world[0])


def is_normal(world):
    """Tell whether a world has as many moves as squares."""
    return len(moves(world)) == len(world[0])


def normal_cover(world):
    """Return the least form of the world whose squares are the listings of
    the group."""
    # A listing tells where all squares go, so going right behind it is going
    # right from all of these squares at once.
    many = len(world[0])
    return least_form(over_all([world] * many, tuple(range(many))))
