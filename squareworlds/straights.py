"""Straight walks from corner to corner."""

from squareworlds.corners import corner_indices, corners
from squareworlds.listings import undone
from squareworlds.walks import squares_on


def letters_over(p, q):
    """Return the letters of the sides that a straight step goes over."""
    letters = []
    # The line comes to the height y behind the width x if x / p < y / q.
    x, y = 1, 1
    while x < p or y < q:
        if x * q < y * p:
            letters.append("r")
            x += 1
        else:
            letters.append("u")
            y += 1
    return "".join(letters)


def crossed(world, square, p, q):
    """Return the squares through which a straight step goes."""
    return tuple(squares_on(world, square, letters_over(p, q)))


def _square_behind(world, square, p, q):
    """Return the square at whose lower left corner a straight step ends, and
    with which the line goes on if that corner is plain."""
    right, up = world
    if q == 0:
        return right[square]
    if p == 0:
        return up[square]
    return up[right[crossed(world, square, p, q)[-1]]]


def great_corners(world):
    """Return, square by square, the index of its lower left corner if this one
    is great, otherwise None."""
    left = undone(world[0])
    down = undone(world[1])
    indices = corner_indices(world)
    turns = [len(corner) for corner in corners(world)]
    found = []
    for square in range(len(left)):
        index = indices[left[down[square]]]
        found.append(index if turns[index] > 1 else None)
    return found


def straight(world, square, p, q):
    """Return how many steps a line makes to the first great corner, and its
    index; None if the line comes round without one."""
    great = great_corners(world)
    here = _square_behind(world, square, p, q)
    steps = 1
    while great[here] is None:
        if here == square:
            return None
        here = _square_behind(world, here, p, q)
        steps += 1
    return (steps, great[here])


def chords(world, p, q):
    """Return the numbers of steps of all lines that begin at great corners,
    the lesser ones first."""
    found = []
    for square, corner in enumerate(great_corners(world)):
        if corner is not None:
            found.append(straight(world, square, p, q)[0])
    return tuple(sorted(found))
