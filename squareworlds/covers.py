"""Which worlds cover which: maps, moves and block sets."""

from squareworlds.errors import NotBlocks, TooMany
from squareworlds.listings import is_whole_tuple, merged
from squareworlds.worlds import least_form, met_from

MOST_SQUARES = 8


def maps(one, other):
    """Return all maps from one world to another one, ascending."""
    found = []
    for square in range(len(other[0])):
        images = _images(one, other, square)
        if images is not None:
            found.append(images)
    return tuple(found)


def _images(one, other, square):
    """Return the map that takes square 0 to a square, None if there is none."""
    images = {0: square}
    for here in met_from(one, 0):
        for step, far_step in zip(one, other):
            far = far_step[images[here]]
            if images.setdefault(step[here], far) != far:
                return None
    return tuple([images[here] for here in range(len(one[0]))])


def moves(world):
    """Return all maps from a world to itself, ascending."""
    return maps(world, world)


def block_sets(world):
    """Return all block sets, ascending.

    Each is told by the block of square 0, so it comes from single squares by
    joining the squares of this block to square 0, one after the other."""
    squares = list(range(len(world[0])))
    found = [squares]
    at = 0
    while at < len(found):
        for square in squares:
            labels = _least_labels(world, found[at], square)
            if labels not in found:
                found.append(labels)
        at += 1
    return tuple(sorted([blocks_of(labels) for labels in found]))


def _least_labels(world, labels, square):
    """Return the labels of the least blocks that hold those told by labels,
    and a square in the block of square 0."""
    pairs = [(0, square)]
    while pairs:
        labels = merged(labels, pairs)
        pairs = _pairs_to_join(world, labels)
    # A block is labelled by its least square, so that like ones have one label.
    return [labels.index(label) for label in labels]


def _pairs_to_join(world, labels):
    """Return the pairs to which right and up lead pairs of one block, and that
    are not of one block themselves."""
    pairs = []
    for step in world:
        for one in range(len(labels)):
            for other in range(one):
                if labels[one] == labels[other] and labels[step[one]] != labels[step[other]]:
                    pairs.append((step[one], step[other]))
    return pairs


def blocks_of(labels):
    """Return the block set in which the squares of a block have one label."""
    blocks = []
    for square, told in enumerate(labels):
        if labels.index(told) == square:
            blocks.append(tuple([s for s, label in enumerate(labels) if label == told]))
    return tuple(blocks)


def check_blocks(world, value):
    """Raise NotBlocks if a value is no block set of the world."""
    if not isinstance(value, tuple) or not all([is_whole_tuple(block) for block in value]):
        raise NotBlocks("no tuple of tuples of integers")
    if value not in block_sets(world):
        raise NotBlocks("no block set of this world")


def under(world, blocks):
    """Return the world whose squares are the blocks of a block set."""
    check_blocks(world, blocks)
    return _world_under(world, blocks)


def _world_under(world, blocks):
    right, up = world
    home = {}
    for index, block in enumerate(blocks):
        for square in block:
            home[square] = index
    return (
        tuple([home[right[block[0]]] for block in blocks]),
        tuple([home[up[block[0]]] for block in blocks]),
    )


def covered(world):
    """Return the unlike least forms of all worlds that the world covers."""
    return tuple(sorted({least_form(_world_under(world, blocks)) for blocks in block_sets(world)}))


def is_prime(world):
    """Tell whether a world of at least two squares has just two block sets."""
    return len(world[0]) > 1 and len(block_sets(world)) == 2


def over_both(one, other, s, t):
    """Return the world of the pairs of squares that are met from (s, t)."""
    return over_all([one, other], (s, t))


def over_all(worlds, squares):
    """Return the world of the tuples of a square of each world that are met
    from a tuple of squares by going in all worlds at once."""
    met = [squares]
    at = 0
    while at < len(met):
        for near in (_squares_behind(worlds, 0, met[at]), _squares_behind(worlds, 1, met[at])):
            if near not in met:
                met.append(near)
        # There may be very many, so they are not met beyond what is too many.
        if len(met) > MOST_SQUARES:
            raise TooMany(MOST_SQUARES)
        at += 1
    return (
        tuple([met.index(_squares_behind(worlds, 0, here)) for here in met]),
        tuple([met.index(_squares_behind(worlds, 1, here)) for here in met]),
    )


def _squares_behind(worlds, side, squares):
    """Return the squares to the right of squares, or above them for side 1,
    each in its world."""
    return tuple([world[side][square] for world, square in zip(worlds, squares)])
