"""[63]: block sets among one another."""

import unittest
from itertools import product

from sample import LESSON, NO_BLOCKS_OF_ROW, ONE_SQUARE, ROW, mixed_worlds, some_worlds
from squareworlds.blocks import block_sizes, blocks_joined, blocks_met
from squareworlds.covers import block_sets, covered, over_both, under
from squareworlds.errors import NotBlocks
from squareworlds.worlds import are_alike, least_form

FIELD = ((1, 0, 3, 2), (2, 3, 0, 1))
CIRCLE = ((1, 2, 3, 4, 5, 0), (0, 1, 2, 3, 4, 5))
# Two rows of two by two worlds of eight squares: ten block sets.
MANY_BLOCKS = ((1, 0, 4, 5, 2, 3, 7, 6), (2, 3, 0, 1, 6, 7, 4, 5))
WORLDS = mixed_worlds()[::2] + [ROW, FIELD, CIRCLE, MANY_BLOCKS] + some_worlds(4, 30)


def pairs_of_block_sets():
    for world in WORLDS:
        for one, other in product(block_sets(world), repeat=2):
            yield world, one, other


def together(blocks):
    """The pairs of squares that lie in one block."""
    return {(s, t) for block in blocks for s in block for t in block}


class TestByHand(unittest.TestCase):
    def test_one_square(self):
        self.assertEqual(blocks_met(ONE_SQUARE, ((0,),), ((0,),)), ((0,),))
        self.assertEqual(blocks_joined(ONE_SQUARE, ((0,),), ((0,),)), ((0,),))
        self.assertEqual(block_sizes(ONE_SQUARE), (1,))

    def test_circle(self):
        twos = ((0, 3), (1, 4), (2, 5))
        threes = ((0, 2, 4), (1, 3, 5))
        ones = ((0,), (1,), (2,), (3,), (4,), (5,))
        whole = ((0, 1, 2, 3, 4, 5),)
        for one, other in ((twos, threes), (threes, twos)):
            self.assertEqual(blocks_met(CIRCLE, one, other), ones)
            self.assertEqual(blocks_joined(CIRCLE, one, other), whole)
        for blocks in (ones, twos, threes, whole):
            self.assertEqual(blocks_met(CIRCLE, blocks, whole), blocks)
            self.assertEqual(blocks_met(CIRCLE, ones, blocks), ones)
            self.assertEqual(blocks_joined(CIRCLE, blocks, ones), blocks)
            self.assertEqual(blocks_joined(CIRCLE, whole, blocks), whole)
        self.assertEqual(block_sizes(CIRCLE), (1, 2, 3, 6))

    def test_others(self):
        self.assertEqual(blocks_met(FIELD, ((0, 1), (2, 3)), ((0, 3), (1, 2))), ((0,), (1,), (2,), (3,)))
        self.assertEqual(blocks_joined(FIELD, ((0, 1), (2, 3)), ((0, 3), (1, 2))), ((0, 1, 2, 3),))
        self.assertEqual(block_sizes(FIELD), (1, 2, 2, 2, 4))
        self.assertEqual(block_sizes(ROW), (1, 2, 4))
        self.assertEqual(block_sizes(LESSON), (1, 3))


class TestPairs(unittest.TestCase):
    def test_met_and_joined(self):
        many = 0
        for world, one, other in pairs_of_block_sets():
            many += one not in (other, block_sets(world)[0])
            sets = block_sets(world)
            shared = together(one) & together(other)
            met = blocks_met(world, one, other)
            self.assertIn(met, sets)
            self.assertEqual(together(met), shared)
            joined = blocks_joined(world, one, other)
            self.assertIn(joined, sets)
            both = together(one) | together(other)
            holding = [together(blocks) for blocks in sets if both <= together(blocks)]
            self.assertEqual(together(joined), min(holding, key=len))
        self.assertGreater(many, 100)

    def test_the_other_way_about(self):
        for world, one, other in pairs_of_block_sets():
            self.assertEqual(blocks_met(world, one, other), blocks_met(world, other, one))
            self.assertEqual(blocks_joined(world, one, other), blocks_joined(world, other, one))

    def test_the_worlds_under_them(self):
        for world, one, other in pairs_of_block_sets():
            low = least_form(under(world, blocks_joined(world, one, other)))
            self.assertIn(low, covered(under(world, one)))
            self.assertIn(low, covered(under(world, other)))
            # The blocks of square 0 are the first ones.
            both = over_both(under(world, one), under(world, other), 0, 0)
            self.assertTrue(are_alike(under(world, blocks_met(world, one, other)), both))


class TestNoBlocks(unittest.TestCase):
    def test_each_of_both(self):
        good = ((0, 2), (1, 3))
        for function in (blocks_met, blocks_joined):
            self.assertIn(function(ROW, good, good), block_sets(ROW))
            for value in NO_BLOCKS_OF_ROW:
                for one, other in ((value, good), (good, value), (value, value)):
                    with self.subTest(function.__name__, one=one, other=other):
                        with self.assertRaises(NotBlocks):
                            function(ROW, one, other)

    def test_of_another_world(self):
        # What is a block set of FIELD is none of ROW.
        for function in (blocks_met, blocks_joined):
            self.assertEqual(function(FIELD, ((0, 1), (2, 3)), ((0, 1), (2, 3))), ((0, 1), (2, 3)))
            with self.assertRaises(NotBlocks):
                function(ROW, ((0, 1), (2, 3)), ((0, 1), (2, 3)))


class TestSizes(unittest.TestCase):
    def test_all_blocks_of_a_set_have_one_size(self):
        for world in WORLDS:
            sizes = []
            for blocks in block_sets(world):
                self.assertEqual(len({len(block) for block in blocks}), 1)
                sizes.append(len(world[0]) // len(blocks))
            self.assertEqual(block_sizes(world), tuple(sorted(sizes)))
            for size in block_sizes(world):
                self.assertEqual(len(world[0]) % size, 0)


if __name__ == "__main__":
    unittest.main()
