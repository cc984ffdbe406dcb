"""Ratios, and what the shares of the rooms come to over a lot."""

from math import gcd

from squareworlds.corners import corners
from squareworlds.lots import lot
from squareworlds.rooms import room_sizes


def ratio(a, b):
    """Return a divided by b, b at least 1, as a ratio."""
    common = gcd(a, b)
    return (a // common, b // common)


def sum_of_ratios(ratios):
    """Return the sum of ratios as a ratio."""
    total = (0, 1)
    for a, b in ratios:
        total = ratio(total[0] * b + a * total[1], total[1] * b)
    return total


def share(world):
    """Return the sum, over all rooms, of height divided by width."""
    return sum_of_ratios([(height, width) for width, height in room_sizes(world)])


def mean_share(world):
    """Return the sum of the shares over the lot, divided by their number."""
    forms = lot(world)
    a, b = sum_of_ratios([share(form) for form in forms])
    return ratio(a, b * len(forms))


def sum_of_rates(world):
    """Return the mean share and a twelfth of what the turns add to it."""
    turns = [len(corner) for corner in corners(world)]
    rates = [((turn - 1) * (turn + 1), 12 * turn) for turn in turns]
    return sum_of_ratios([mean_share(world)] + rates)
