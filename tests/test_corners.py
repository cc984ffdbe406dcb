"""[6], [7], [8]: corners, kinds and holes."""

import unittest

from sample import LESSON, ONE_SQUARE, mixed, mixed_worlds
from squareworlds.corners import around, corner_at, corners, corners_of, holes, kind
from squareworlds.worlds import renamed

# Three squares in a row; two great corners; three squares in a row with one
# above the first; one great corner about which one turns five times.
FLAT = ((1, 2, 0), (0, 1, 2))
TWO_TWOS = ((0, 2, 1, 3), (1, 0, 3, 2))
HOOK = ((1, 2, 0, 3), (3, 1, 2, 0))
FIVE = ((1, 2, 3, 4, 0), (1, 0, 3, 2, 4))


class TestByHand(unittest.TestCase):
    def test_example(self):
        self.assertEqual(around(LESSON), (2, 0, 1))
        self.assertEqual(corners(LESSON), ((0, 2, 1),))
        self.assertEqual(kind(LESSON), (3,))
        self.assertEqual(holes(LESSON), 2)

    def test_one_hole(self):
        self.assertEqual(corners(ONE_SQUARE), ((0,),))
        self.assertEqual(kind(ONE_SQUARE), ())
        self.assertEqual(holes(ONE_SQUARE), 1)
        self.assertEqual(around(FLAT), (0, 1, 2))
        self.assertEqual(corners(FLAT), ((0,), (1,), (2,)))
        self.assertEqual(kind(FLAT), ())
        self.assertEqual(holes(FLAT), 1)

    def test_more_great_corners(self):
        # One goes right, up, left and down from each square.
        self.assertEqual(around(TWO_TWOS), (3, 2, 1, 0))
        self.assertEqual(corners(TWO_TWOS), ((0, 3), (1, 2)))
        self.assertEqual(kind(TWO_TWOS), (2, 2))
        self.assertEqual(holes(TWO_TWOS), 2)

    def test_great_and_plain_corners(self):
        self.assertEqual(around(HOOK), (3, 1, 0, 2))
        self.assertEqual(corners(HOOK), ((0, 3, 2), (1,)))
        self.assertEqual(kind(HOOK), (3,))
        self.assertEqual(holes(HOOK), 2)
        self.assertEqual(around(FIVE), (4, 3, 0, 2, 1))
        self.assertEqual(corners(FIVE), ((0, 4, 1, 3, 2),))
        self.assertEqual(kind(FIVE), (5,))
        self.assertEqual(holes(FIVE), 3)

    def test_corners_of_a_square(self):
        self.assertEqual(corners_of(LESSON, 1), (0, 0, 0, 0))
        self.assertEqual(corner_at(LESSON, 2), 0)
        self.assertEqual([corner_at(HOOK, s) for s in range(4)], [0, 1, 0, 0])
        self.assertEqual(corners_of(HOOK, 1), (0, 1, 0, 1))
        self.assertEqual(corners_of(HOOK, 2), (1, 0, 1, 0))
        self.assertEqual(corners_of(HOOK, 3), (0, 0, 0, 0))


class TestFacts(unittest.TestCase):
    def test_around_step_by_step(self):
        for world in mixed_worlds():
            right, up = world
            for s, t in enumerate(around(world)):
                # From t up and right leads where right and up leads from s.
                self.assertEqual(right[up[t]], up[right[s]])

    def test_corners_are_ascending_and_begin_with_their_least(self):
        for world in mixed_worlds():
            told = corners(world)
            self.assertEqual(list(told), sorted(told))
            squares = sorted(s for corner in told for s in corner)
            self.assertEqual(squares, list(range(len(world[0]))))
            for corner in told:
                self.assertEqual(corner[0], min(corner))
                for s, t in zip(corner, corner[1:] + corner[:1]):
                    self.assertEqual(around(world)[s], t)

    def test_turns_and_holes(self):
        for world in mixed_worlds():
            turns = [len(corner) for corner in corners(world)]
            self.assertEqual(sum(turn - 1 for turn in turns), 2 * holes(world) - 2)
            self.assertGreaterEqual(holes(world), 1)
            self.assertIs(type(holes(world)), int)
            great = sorted((turn for turn in turns if turn > 1), reverse=True)
            self.assertEqual(kind(world), tuple(great))
            self.assertEqual(holes(world) == 1, kind(world) == ())
            self.assertEqual(len([t for t in turns if t > 1 and t % 2 == 0]) % 2, 0)

    def test_alike_worlds_have_one_kind(self):
        for world in mixed_worlds():
            other = renamed(world, mixed(len(world[0]), 31))
            self.assertEqual(kind(other), kind(world))
            self.assertEqual(holes(other), holes(world))

    def test_corner_at(self):
        for world in mixed_worlds():
            for index, corner in enumerate(corners(world)):
                for square in corner:
                    self.assertEqual(corner_at(world, square), index)

    def test_neighbours_share_corners(self):
        for world in mixed_worlds():
            right, up = world
            for s in range(len(right)):
                low_left, low_right, up_left, up_right = corners_of(world, s)
                self.assertEqual(up_right, corner_at(world, s))
                beside = corners_of(world, right[s])
                self.assertEqual((beside[0], beside[2]), (low_right, up_right))
                above = corners_of(world, up[s])
                self.assertEqual((above[0], above[1]), (up_left, up_right))
                # One comes to the lower left corner by either way.
                t = right[up[s]]
                self.assertEqual(corners_of(world, t)[0], up_right)
                t = up[right[s]]
                self.assertEqual(corners_of(world, t)[0], up_right)


if __name__ == "__main__":
    unittest.main()
