"""The corners of a world, and what is told by their turns."""

from squareworlds.listings import chained, rounds, undone


def around(world):
    """Return the listing that leads each square once about its upper right
    corner."""
    right, up = world
    there = chained(right, up)
    back = chained(undone(right), undone(up))
    return chained(there, back)


def corners(world):
    """Return the corners, each as the squares whose upper right corner it is."""
    return rounds(around(world))


def kind(world):
    """Return the turns above 1, the greater ones first."""
    turns = [len(corner) for corner in corners(world)]
    return tuple(sorted([turn for turn in turns if turn > 1], reverse=True))


def holes(world):
    """Return the number of holes."""
    return (len(world[0]) - len(corners(world))) // 2 + 1


def corner_indices(world):
    """Return, square by square, the index of its upper right corner."""
    indices = [0] * len(world[0])
    for index, corner in enumerate(corners(world)):
        for square in corner:
            indices[square] = index
    return tuple(indices)


def corner_at(world, square):
    """Return the index of the upper right corner of a square."""
    return corner_indices(world)[square]


def corners_of(world, square):
    """Return the indices of the lower left, lower right, upper left and upper
    right corner of a square."""
    right, up = world
    left = undone(right)
    lower = undone(up)[square]
    indices = corner_indices(world)
    return (indices[left[lower]], indices[lower], indices[left[square]], indices[square])
