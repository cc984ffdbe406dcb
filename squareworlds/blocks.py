"""Block sets of a world among one another."""

from squareworlds.covers import block_sets, blocks_of, check_blocks
from squareworlds.listings import merged


def blocks_met(world, one, other):
    """Return the block set whose blocks are what a block of the one and a
    block of the other one share."""
    check_blocks(world, one)
    check_blocks(world, other)
    shared = []
    for block in one:
        for far_block in other:
            shared.append(tuple([square for square in block if square in far_block]))
    return tuple(sorted([block for block in shared if block]))


def blocks_joined(world, one, other):
    """Return the block set with the least blocks in which those of both lie."""
    check_blocks(world, one)
    check_blocks(world, other)
    # Right and up lead such blocks to such blocks, too, so they are not made
    # greater by that.
    pairs = [(block[0], square) for block in one + other for square in block]
    return blocks_of(merged(list(range(len(world[0]))), pairs))


def block_sizes(world):
    """Return the numbers of squares in a block, for all block sets, the lesser
    ones first."""
    return tuple(sorted([len(blocks[0]) for blocks in block_sets(world)]))
