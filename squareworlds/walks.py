"""Walks over the squares, the lattices of those that lead back, flat worlds."""

from math import gcd

from squareworlds.deeds import check_letters
from squareworlds.listings import undone
from squareworlds.worlds import least_form, met_from

WALK_LETTERS = "ruld"


def steps_of(world):
    """Return a dict from each letter of walks to the listing by which it goes."""
    right, up = world
    return {"r": right, "u": up, "l": undone(right), "d": undone(up)}


def squares_on(world, square, letters):
    """Return the squares on a walk from a square on, both ends with them."""
    steps = steps_of(world)
    squares = [square]
    for letter in letters:
        squares.append(steps[letter][squares[-1]])
    return squares


def walked(world, square, walk):
    """Return the square to which a walk leads."""
    check_letters(walk, WALK_LETTERS)
    return squares_on(world, square, walk)[-1]


def go_back(world, walk):
    """Return the squares from which a walk comes back to where it began."""
    ends = [walked(world, square, walk) for square in range(len(world[0]))]
    return tuple([square for square, end in enumerate(ends) if square == end])


def lattice(world):
    """Return the triple (a, b, d) of the steps of walks that lead back."""
    right, up = world
    steps = _steps_to(world)
    a, b, d = 0, 0, 0
    for square in range(len(right)):
        x, y = steps[square]
        for near, far_x, far_y in ((right[square], x + 1, y), (up[square], x, y + 1)):
            near_x, near_y = steps[near]
            a, b, d = _with_step(a, b, d, far_x - near_x, far_y - near_y)
    return (a, b % a, d)


def _steps_to(world):
    """Return a dict from each square to the step of a walk to it from square 0."""
    right, up = world
    steps = {0: (0, 0)}
    for square in met_from(world, 0):
        x, y = steps[square]
        steps.setdefault(right[square], (x + 1, y))
        steps.setdefault(up[square], (x, y + 1))
    return steps


def _with_step(a, b, d, x, y):
    """Return the lattice that has (a, 0), (b, d) and the step (x, y)."""
    while y != 0:
        times = d // y
        b, d, x, y = x, y, b - times * x, d - times * y
    if d < 0:
        b, d = -b, -d
    return (gcd(a, x), b, d)


def is_tight(world):
    """Tell whether the steps of the walks that lead back are all steps."""
    a, _, d = lattice(world)
    return a * d == 1


def flat(a, b, d):
    """Return the least form of the world with one hole and this lattice."""
    right = [row * a + (place + 1) % a for row in range(d) for place in range(a)]
    # Above the highest row lies the lowest one, by b to the left.
    up = [row * a + place for row in range(1, d) for place in range(a)]
    up = up + [(place - b) % a for place in range(a)]
    return least_form((tuple(right), tuple(up)))


def flats(n):
    """Return the least forms of the worlds of n squares with one hole."""
    found = []
    for a in range(1, n + 1):
        if n % a == 0:
            for b in range(a):
                found.append(flat(a, b, n // a))
    return tuple(sorted(found))
