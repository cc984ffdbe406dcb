"""[59], [60]: rooms to a length."""

import unittest
from fractions import Fraction
from math import gcd

from sample import LESSON, ONE_SQUARE, mixed, mixed_worlds
from squareworlds.deeds import done
from squareworlds.lengths import field_to, rooms_to
from squareworlds.rooms import room_sizes_along
from squareworlds.worlds import renamed

ASKEW = ((1, 0), (1, 0))
# One row of three, above which it lies by one to the right: its rooms are of
# the width 1 along (p, q) if 3 divides p - q, and otherwise of the width 3.
LEANING = ((1, 2, 0), (2, 0, 1))


def directions_up():
    """All directions that may have rooms with a square up to 210."""
    pairs = [(p, q) for q in range(1, 15) for p in range(-14, 15)]
    return [(1, 0)] + [(p, q) for p, q in pairs if gcd(p, q) == 1]


def all_rooms(world):
    """The squares of the lengths and the ratios of all rooms up to 210."""
    found = []
    for p, q in directions_up():
        for width, height in room_sizes_along(world, (p, q)):
            found.append((width * width * (p * p + q * q), Fraction(height, width)))
    return found


def counted(rooms, most):
    squares = [square for square, _ in rooms if square <= most]
    return tuple((square, squares.count(square)) for square in sorted(set(squares)))


class TestRoomsTo(unittest.TestCase):
    def test_one_square(self):
        self.assertEqual(rooms_to(ONE_SQUARE, 1), ((1, 2),))
        self.assertEqual(rooms_to(ONE_SQUARE, 2), ((1, 2), (2, 2)))
        self.assertEqual(rooms_to(ONE_SQUARE, 4), ((1, 2), (2, 2)))
        self.assertEqual(rooms_to(ONE_SQUARE, 5), ((1, 2), (2, 2), (5, 4)))
        self.assertEqual(rooms_to(ONE_SQUARE, 13), ((1, 2), (2, 2), (5, 4), (10, 4), (13, 4)))
        for most in (1, 2, 65, 196, 197, 199, 200):
            told = [(p * p + q * q, 1) for p, q in directions_up()]
            self.assertEqual(rooms_to(ONE_SQUARE, most), counted(told, most))
        self.assertEqual(rooms_to(ONE_SQUARE, 200)[-1], (197, 4))
        self.assertIn((65, 8), rooms_to(ONE_SQUARE, 65))

    def test_three_squares(self):
        # Along (p, q), both odd, one room of the width 3, else of 1 and of 2.
        self.assertEqual(
            rooms_to(LESSON, 20), ((1, 2), (4, 2), (5, 4), (13, 4), (17, 4), (18, 2), (20, 4))
        )
        self.assertEqual(rooms_to(LESSON, 1), ((1, 2),))
        self.assertEqual(rooms_to(LESSON, 3), ((1, 2),))
        self.assertEqual(rooms_to(LESSON, 4), ((1, 2), (4, 2)))

    def test_to_the_left(self):
        self.assertEqual(rooms_to(LEANING, 20), ((2, 1), (5, 2), (9, 2), (17, 2), (18, 1)))
        self.assertEqual(rooms_to(((1, 2, 0), (1, 2, 0)), 4), ((2, 1),))

    def test_none(self):
        self.assertEqual(rooms_to(ASKEW, 1), ())
        self.assertEqual(rooms_to(ASKEW, 2), ((2, 2),))

    def test_all_directions(self):
        for world in mixed_worlds()[::4]:
            rooms = all_rooms(world)
            for most in (1, 2, 17, 50, 122, 200):
                told = rooms_to(world, most)
                self.assertEqual(told, counted(rooms, most))
                self.assertEqual(list(told), sorted(told))

    def test_alike(self):
        for world in mixed_worlds()[::3]:
            told = rooms_to(world, 60)
            self.assertEqual(rooms_to(renamed(world, mixed(len(world[0]), 5)), 60), told)
            self.assertEqual(rooms_to(done(world, "c"), 60), told)


class TestFieldTo(unittest.TestCase):
    def test_by_hand(self):
        self.assertEqual(field_to(ONE_SQUARE, 1), (2, 1))
        self.assertEqual(field_to(ONE_SQUARE, 5), (8, 1))
        self.assertEqual(field_to(LESSON, 1), (2, 1))
        self.assertEqual(field_to(LESSON, 4), (3, 1))
        self.assertEqual(field_to(LESSON, 20), (53, 3))
        self.assertEqual(field_to(LEANING, 9), (29, 3))
        self.assertEqual(field_to(ASKEW, 1), (0, 1))
        self.assertEqual(field_to(ASKEW, 4), (5, 1))
        self.assertEqual(field_to(((0, 1), (1, 0)), 1), (2, 1))

    def test_all_directions(self):
        for world in mixed_worlds()[::4]:
            rooms = all_rooms(world)
            for most in (1, 2, 17, 200):
                told = sum((field for square, field in rooms if square <= most), Fraction(0))
                self.assertEqual(
                    field_to(world, most), (told.numerator, told.denominator)
                )

    def test_alike(self):
        for world in mixed_worlds()[::3]:
            told = field_to(world, 60)
            self.assertEqual(field_to(renamed(world, mixed(len(world[0]), 5)), 60), told)
            self.assertEqual(field_to(done(world, "c"), 60), told)


if __name__ == "__main__":
    unittest.main()
