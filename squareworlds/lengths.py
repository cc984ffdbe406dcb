"""The rooms of a world up to a length, over all directions."""

from math import gcd, isqrt

from squareworlds.listings import tally
from squareworlds.rooms import room_sizes_along
from squareworlds.shares import sum_of_ratios


def directions_to(most):
    """Return the pairs (direction, the square of its length) of (1, 0) and of
    all directions (p, q) with q above 0, for all squares up to most."""
    found = [((1, 0), 1)]
    reach = isqrt(most)
    for q in range(1, reach + 1):
        for p in range(-reach, reach + 1):
            square = p * p + q * q
            if gcd(p, q) == 1 and square <= most:
                found.append(((p, q), square))
    return found


def _rooms_found(world, most):
    """Return the triples (square of a length, width, height) of all rooms with
    a square up to most."""
    found = []
    for direction, unit in directions_to(most):
        for width, height in room_sizes_along(world, direction):
            if width * width * unit <= most:
                found.append((width * width * unit, width, height))
    return found


def rooms_to(world, most):
    """Return the pairs (square of a length, how many rooms have it), ascending."""
    return tally([told[0] for told in _rooms_found(world, most)])


def field_to(world, most):
    """Return the sum of height divided by width over these rooms."""
    return sum_of_ratios([(height, width) for _, width, height in _rooms_found(world, most)])
