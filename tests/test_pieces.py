"""[55]: pieces and their rounds."""

import unittest
from math import gcd

from sample import LESSON, ONE_SQUARE, mixed_worlds
from squareworlds.deeds import done
from squareworlds.pieces import piece_rounds, pieces
from squareworlds.rooms import room_sizes_along

TALL = ((0, 1), (1, 0))
LONG = ((1, 0), (0, 1))
ASKEW = ((1, 0), (1, 0))
DIRECTIONS = [(p, q) for p in range(8) for q in range(1, 6) if gcd(p, q) == 1]
LONG_ONES = [(50, 1), (1, 50), (50, 49), (49, 50), (37, 50), (13, 8), (43, 30), (50, 7)]


def piece_above(world, s, i, p, q):
    """Where the middle of a piece is led, told in half pieces from the left
    end of its square on."""
    right, up = world
    place = 2 * i + 1 + 2 * p
    while place > 2 * q:
        s = right[s]
        place -= 2 * q
    return q * up[s] + (place - 1) // 2


class TestPieces(unittest.TestCase):
    def test_one_square(self):
        self.assertEqual(pieces(ONE_SQUARE, 0, 1), (0,))
        self.assertEqual(pieces(ONE_SQUARE, 7, 1), (0,))
        self.assertEqual(pieces(ONE_SQUARE, 1, 2), (1, 0))
        self.assertEqual(pieces(ONE_SQUARE, 2, 3), (2, 0, 1))
        self.assertEqual(pieces(ONE_SQUARE, 5, 3), (2, 0, 1))
        self.assertEqual(pieces(ONE_SQUARE, 50, 49), tuple(range(1, 49)) + (0,))
        self.assertEqual(pieces(ONE_SQUARE, 49, 50), (49,) + tuple(range(49)))

    def test_two_squares(self):
        self.assertEqual(pieces(LONG, 1, 2), (1, 2, 3, 0))
        self.assertEqual(pieces(ASKEW, 1, 2), (3, 0, 1, 2))
        self.assertEqual(pieces(TALL, 1, 2), (3, 2, 1, 0))
        self.assertEqual(pieces(LONG, 3, 1), (1, 0))
        self.assertEqual(pieces(LONG, 50, 1), (0, 1))
        self.assertEqual(pieces(ASKEW, 50, 1), (1, 0))
        self.assertEqual(pieces(LONG, 5, 2), (1, 2, 3, 0))
        self.assertEqual(pieces(LONG, 3, 2), (3, 0, 1, 2))

    def test_three_squares(self):
        self.assertEqual(pieces(LESSON, 1, 2), (5, 2, 3, 4, 1, 0))

    def test_straight_up(self):
        for world in mixed_worlds():
            self.assertEqual(pieces(world, 0, 1), world[1])
            self.assertEqual(pieces(world, 1, 1), done(world, "A")[1])

    def test_where_middles_are_led(self):
        for world in mixed_worlds()[::3]:
            for p, q in DIRECTIONS + LONG_ONES:
                squares = range(len(world[0]))
                told = tuple(piece_above(world, s, i, p, q) for s in squares for i in range(q))
                self.assertEqual(pieces(world, p, q), told)
                self.assertEqual(sorted(told), list(range(len(told))))

    def test_all_directions(self):
        for p in range(51):
            for q in range(1, 51):
                if gcd(p, q) == 1:
                    told = pieces(LESSON, p, q)
                    self.assertEqual(sorted(told), list(range(3 * q)))
                    self.assertEqual(pieces(ONE_SQUARE, p, q), tuple((i + p) % q for i in range(q)))
                    # Room by room of the widths 1 and 2, or of the width 3.
                    widths = (q, 2 * q) if p * q % 2 == 0 else (3 * q,)
                    self.assertEqual(piece_rounds(LESSON, p, q), widths)

    def test_leant_back(self):
        for world in mixed_worlds()[::3]:
            for p, q in DIRECTIONS + LONG_ONES:
                if p >= q:
                    self.assertEqual(pieces(done(world, "A"), p - q, q), pieces(world, p, q))
                # And so below q, the other way about.
                self.assertEqual(pieces(done(world, "a"), p + q, q), pieces(world, p, q))


class TestRounds(unittest.TestCase):
    def test_by_hand(self):
        self.assertEqual(piece_rounds(ONE_SQUARE, 0, 1), (1,))
        self.assertEqual(piece_rounds(ONE_SQUARE, 3, 50), (50,))
        self.assertEqual(piece_rounds(TALL, 1, 2), (2, 2))
        self.assertEqual(piece_rounds(LONG, 1, 2), (4,))
        self.assertEqual(piece_rounds(LONG, 0, 1), (1, 1))
        self.assertEqual(piece_rounds(LESSON, 1, 2), (2, 4))
        self.assertEqual(piece_rounds(LESSON, 1, 1), (3,))
        self.assertEqual(piece_rounds(LESSON, 0, 1), (1, 2))

    def test_rooms(self):
        for world in mixed_worlds():
            for p, q in DIRECTIONS + LONG_ONES[len(world[0]) % 4::4]:
                told = []
                for width, height in room_sizes_along(world, (p, q)):
                    told += [q * width] * height
                self.assertEqual(piece_rounds(world, p, q), tuple(sorted(told)))
                self.assertEqual(sum(told), q * len(world[0]))


if __name__ == "__main__":
    unittest.main()
