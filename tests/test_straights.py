"""[32] to [34]: straight steps, lines and chords."""

import unittest
from fractions import Fraction
from math import gcd

from sample import GREAT, LESSON, ONE_SQUARE, mixed_worlds
from squareworlds.corners import corners, corners_of, kind
from squareworlds.deeds import done, matrix, word_of
from squareworlds.listings import undone
from squareworlds.rooms import room_sizes_along
from squareworlds.straights import chords, crossed, straight

DIRECTIONS = [(p, q) for p in range(5) for q in range(5) if gcd(p, q) == 1]
LONG_ONES = [(50, 1), (1, 50), (50, 49), (49, 50), (37, 50), (13, 8), (43, 30)]
CIRCLE = ((1, 2, 0), (0, 1, 2))
FIELD = ((1, 0, 3, 2), (2, 3, 0, 1))
# Four squares in a row; above the second one and the fourth one the two others.
TWO_RISERS = ((1, 2, 3, 0), (0, 3, 2, 1))


def squares_by_times(world, square, p, q):
    """The squares of a straight step, by the times at which it leaves them."""
    right, up = world
    times = [(Fraction(i, p), right) for i in range(1, p)]
    times += [(Fraction(j, q), up) for j in range(1, q)]
    squares = [square]
    for _, step in sorted(times):
        squares.append(step[squares[-1]])
    return tuple(squares)


def line(world, square, p, q):
    """What straight returns, told by the squares crossed."""
    right, up = world
    turns = [len(corner) for corner in corners(world)]
    here, steps = square, 0
    while True:
        steps += 1
        last = squares_by_times(world, here, p, q)[-1]
        lower_left, lower_right, upper_left, upper_right = corners_of(world, last)
        end, here = upper_right, up[right[last]]
        if (p, q) == (1, 0):
            end, here = lower_right, right[last]
        if (p, q) == (0, 1):
            end, here = upper_left, up[last]
        if turns[end] > 1:
            return (steps, end)
        if here == square:
            return None


class TestCrossed(unittest.TestCase):
    def test_by_hand(self):
        for square in (0, 1, 2):
            for p, q in ((1, 0), (0, 1), (1, 1)):
                self.assertEqual(crossed(LESSON, square, p, q), (square,))
        self.assertEqual(crossed(LESSON, 0, 2, 1), (0, 1))
        self.assertEqual(crossed(LESSON, 0, 1, 2), (0, 2))
        self.assertEqual(crossed(LESSON, 0, 3, 2), (0, 1, 1, 0))
        self.assertEqual(crossed(LESSON, 0, 2, 3), (0, 2, 2, 0))
        self.assertEqual(crossed(CIRCLE, 1, 5, 1), (1, 2, 0, 1, 2))
        self.assertEqual(crossed(CIRCLE, 1, 1, 5), (1, 1, 1, 1, 1))
        # Right at 1 / 5, 2 / 5, 3 / 5, 4 / 5 of the way, up at 1 / 3, 2 / 3.
        world = ((1, 2, 3, 4, 0, 5), (5, 1, 2, 3, 4, 0))
        self.assertEqual(crossed(world, 3, 5, 3), (3, 4, 4, 0, 1, 1, 2))

    def test_by_times(self):
        for world in mixed_worlds()[::3]:
            for p, q in DIRECTIONS + LONG_ONES:
                for square in range(len(world[0])):
                    told = crossed(world, square, p, q)
                    self.assertEqual(told, squares_by_times(world, square, p, q))
                    self.assertEqual(len(told), 1 if 0 in (p, q) else p + q - 1)
                    self.assertEqual(told[0], square)

    def test_the_same_backward(self):
        for world in mixed_worlds()[::5]:
            back = (undone(world[0]), undone(world[1]))
            for p, q in DIRECTIONS + LONG_ONES:
                told = crossed(world, 0, p, q)
                self.assertEqual(crossed(back, told[-1], p, q), told[::-1])


class TestStraight(unittest.TestCase):
    def test_by_hand(self):
        # One corner, so each line ends there behind one step.
        for square in (0, 1, 2):
            for p, q in DIRECTIONS + LONG_ONES:
                self.assertEqual(straight(LESSON, square, p, q), (1, 0))

    def test_ends(self):
        self.assertEqual(corners(TWO_RISERS), ((0, 2), (1, 3)))
        self.assertEqual(straight(TWO_RISERS, 0, 1, 0), (1, 0))
        self.assertEqual(straight(TWO_RISERS, 1, 1, 0), (1, 1))
        self.assertEqual(straight(TWO_RISERS, 0, 0, 1), (1, 1))
        self.assertEqual(straight(TWO_RISERS, 1, 0, 1), (1, 0))
        self.assertEqual(straight(TWO_RISERS, 0, 1, 1), (1, 0))
        self.assertEqual(straight(TWO_RISERS, 0, 2, 1), (1, 1))
        self.assertEqual(straight(TWO_RISERS, 0, 1, 2), (1, 0))

    def test_steps(self):
        # A row of four with one square above its first one: corner 0 is great.
        world = ((1, 2, 3, 0, 4), (4, 1, 2, 3, 0))
        self.assertEqual(corners(world), ((0, 4, 3), (1,), (2,)))
        self.assertEqual(straight(world, 0, 1, 0), (1, 0))
        self.assertEqual([straight(world, s, 1, 0) for s in (1, 2, 3)], [(3, 0), (2, 0), (1, 0)])
        self.assertEqual(straight(world, 4, 1, 0), (1, 0))
        self.assertEqual(straight(world, 0, 0, 1), (1, 0))
        self.assertIsNone(straight(world, 2, 0, 1))
        self.assertIsNone(straight(world, 3, 0, 1))
        self.assertEqual(straight(world, 1, 1, 1), (3, 0))
        self.assertEqual(straight(world, 2, 2, 1), (1, 0))
        self.assertEqual(straight(world, 2, 1, 1), (2, 0))

    def test_lines_that_come_round(self):
        for world in (ONE_SQUARE, CIRCLE, FIELD):
            for p, q in DIRECTIONS + LONG_ONES:
                for square in range(len(world[0])):
                    self.assertIsNone(straight(world, square, p, q))

    def test_as_told(self):
        for world in mixed_worlds()[::2]:
            for p, q in DIRECTIONS:
                for square in range(len(world[0])):
                    self.assertEqual(straight(world, square, p, q), line(world, square, p, q))

    def test_long_ones(self):
        for world in mixed_worlds()[::9]:
            for p, q in LONG_ONES:
                for square in range(len(world[0])):
                    self.assertEqual(straight(world, square, p, q), line(world, square, p, q))

    def test_lines_from_great_corners_end(self):
        for world in mixed_worlds():
            turns = [len(corner) for corner in corners(world)]
            for square in range(len(world[0])):
                if turns[corners_of(world, square)[0]] > 1:
                    for p, q in DIRECTIONS[:5]:
                        self.assertIsNotNone(straight(world, square, p, q))


class TestChords(unittest.TestCase):
    def test_by_hand(self):
        self.assertEqual(chords(LESSON, 1, 0), (1, 1, 1))
        self.assertEqual(chords(LESSON, 3, 2), (1, 1, 1))
        world = ((1, 2, 3, 0, 4), (4, 1, 2, 3, 0))
        self.assertEqual(chords(world, 1, 0), (1, 1, 3))
        self.assertEqual(chords(world, 0, 1), (1, 1, 1))

    def test_without_great_corners(self):
        for world in mixed_worlds():
            if kind(world) == ():
                for p, q in DIRECTIONS:
                    self.assertEqual(chords(world, p, q), ())

    def test_as_told(self):
        for world in mixed_worlds() + [GREAT]:
            turns = [len(corner) for corner in corners(world)]
            begins = [s for s in range(len(world[0])) if turns[corners_of(world, s)[0]] > 1]
            for p, q in DIRECTIONS:
                told = chords(world, p, q)
                self.assertEqual(told, tuple(sorted(straight(world, s, p, q)[0] for s in begins)))
                self.assertEqual(len(told), sum(kind(world)))

    def test_widths_of_rooms(self):
        for world in mixed_worlds()[::2]:
            if kind(world) != ():
                for p, q in DIRECTIONS + LONG_ONES[:3]:
                    widths = [width for width, height in room_sizes_along(world, (p, q))]
                    self.assertEqual(sum(chords(world, p, q)), sum(widths))

    def test_behind_words(self):
        for world in mixed_worlds()[::4]:
            for table in (((1, 0), (0, 1)), ((2, -1), (-1, 1)), ((3, -5), (-1, 2)), ((-7, 3), (2, -1))):
                (a, b), (c, d) = table
                word = word_of(table)
                self.assertEqual(matrix(word), table)
                # The matrix leads (d, -c) to (1, 0).
                p, q = d, -c
                if p < 0 or q < 0:
                    p, q, word = -p, -q, word + "cc"
                self.assertEqual(chords(world, p, q), chords(done(world, word), 1, 0))


if __name__ == "__main__":
    unittest.main()
