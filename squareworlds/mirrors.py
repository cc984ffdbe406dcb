"""Worlds as in a mirror, and worlds that cover others twice."""

from squareworlds.corners import corners
from squareworlds.covers import MOST_SQUARES
from squareworlds.errors import TooMany
from squareworlds.listings import undone
from squareworlds.lots import are_of_one_lot
from squareworlds.worlds import are_alike, least_form, met_from


def mirrored(world):
    """Return the world as in a mirror, with left and right exchanged."""
    right, up = world
    return (undone(right), up)


def is_mirror_alike(world):
    """Tell whether the mirrored world is alike to the world."""
    return are_alike(world, mirrored(world))


def is_mirror_lot(world):
    """Tell whether the mirrored world is of one lot with the world."""
    return are_of_one_lot(world, mirrored(world))


def double_covers(world):
    """Return the unlike least forms of all worlds of twice as many squares
    that have a map to the world, and two corners of the same turn over each
    corner."""
    many = len(world[0])
    if 2 * many > MOST_SQUARES:
        raise TooMany(MOST_SQUARES)
    found = set()
    for choice in range(1 << 2 * many):
        crossed_at = [choice >> side & 1 for side in range(2 * many)]
        cover = (_doubled(world[0], crossed_at[:many]), _doubled(world[1], crossed_at[many:]))
        # Over a corner there are two of the same turn, or one alone.
        if len(met_from(cover, 0)) == 2 * many and len(corners(cover)) == 2 * len(corners(world)):
            found.add(least_form(cover))
    return tuple(sorted(found))


def _doubled(step, crossed_at):
    """Return the listing that goes as a step does in two copies of the squares,
    from copy to copy where they are crossed: s and n + s are over s."""
    many = len(step)
    first = [entry + many * cross for entry, cross in zip(step, crossed_at)]
    second = [entry + many * (1 - cross) for entry, cross in zip(step, crossed_at)]
    return tuple(first + second)
