"""[74] to [76]: straight lines as walks, and their lengths."""

import unittest
from itertools import product
from math import gcd

from sample import LESSON, ONE_SQUARE, mixed, mixed_worlds
from squareworlds.classes import crossing
from squareworlds.corners import kind
from squareworlds.deeds import done
from squareworlds.errors import TooLong
from squareworlds.lines import chords_to, piece_walk, step_walk
from squareworlds.listings import round_from
from squareworlds.pieces import pieces
from squareworlds.rooms import room_sizes_along
from squareworlds.straights import chords, crossed
from squareworlds.walks import walked
from squareworlds.worlds import renamed

HOOK = ((1, 2, 0, 3), (3, 1, 2, 0))
DIRECTIONS = [(p, q) for p in range(51) for q in range(51) if gcd(p, q) == 1]
SMALL_ONES = [(p, q) for p, q in DIRECTIONS if p < 6 and 0 < q < 6]


def row_of(n):
    """A row of squares, each of which lies above itself."""
    return (tuple(range(1, n)) + (0,), tuple(range(n)))


def all_chords(world, most):
    """The squares of the chords, direction by direction as told."""
    squares = []
    for q in range(15):
        for p in range(-14, 15):
            unit = p * p + q * q
            if gcd(p, q) == 1 and (q > 0 or p == 1) and unit <= most:
                told = chords(world, p, q) if p >= 0 else chords(done(world, "c"), q, -p)
                squares += [k * k * unit for k in told if k * k * unit <= most]
    return tuple((square, squares.count(square)) for square in sorted(set(squares)))


class TestStepWalk(unittest.TestCase):
    def test_by_hand(self):
        for p, q, told in (
            (1, 0, ""), (0, 1, ""), (1, 1, ""), (2, 1, "r"), (1, 2, "u"), (3, 1, "rr"),
            (1, 3, "uu"), (3, 2, "rur"), (2, 3, "uru"), (5, 2, "rrurr"), (5, 3, "rurrur"),
            (4, 3, "rurur"), (7, 3, "rrurrurr"), (50, 1, "r" * 49), (1, 50, "u" * 49),
        ):
            self.assertEqual(step_walk(p, q), told)

    def test_all_directions(self):
        for p, q in DIRECTIONS:
            sides = [(i * q, "r") for i in range(1, p)] + [(j * p, "u") for j in range(1, q)]
            told = "".join(letter for _, letter in sorted(sides))
            self.assertEqual(step_walk(p, q), told)
            self.assertEqual(told, told[::-1])

    def test_squares_crossed(self):
        for world in mixed_worlds()[::7]:
            for p, q in DIRECTIONS[::13] + SMALL_ONES:
                walk = step_walk(p, q)
                for square in range(len(world[0])):
                    squares = [walked(world, square, walk[:k]) for k in range(len(walk) + 1)]
                    self.assertEqual(crossed(world, square, p, q), tuple(squares))


class TestPieceWalk(unittest.TestCase):
    def test_by_hand(self):
        self.assertEqual(piece_walk(ONE_SQUARE, 0, 0, 1), "u")
        self.assertEqual(piece_walk(ONE_SQUARE, 0, 3, 1), "rrru")
        self.assertEqual(piece_walk(ONE_SQUARE, 0, 1, 2), "uru")
        self.assertEqual(piece_walk(ONE_SQUARE, 1, 1, 2), "ruu")
        self.assertEqual(piece_walk(ONE_SQUARE, 0, 5, 2), "rrurrru")
        self.assertEqual(piece_walk(ONE_SQUARE, 1, 5, 2), "rrrurru")
        self.assertEqual(piece_walk(LESSON, 0, 1, 2), "uru")
        self.assertEqual(piece_walk(LESSON, 5, 1, 2), "ruu")
        self.assertEqual(piece_walk(LESSON, 1, 1, 2), "ruuruu")
        self.assertEqual(piece_walk(LESSON, 2, 1, 2), "uruuru")

    def test_round_and_step(self):
        for world in mixed_worlds()[::4]:
            for p, q in SMALL_ONES:
                widths = set()
                for piece in range(q * len(world[0])):
                    walk = piece_walk(world, piece, p, q)
                    self.assertEqual(walked(world, piece // q, walk), piece // q)
                    width = len(round_from(pieces(world, p, q), piece)) // q
                    self.assertEqual((walk.count("r"), walk.count("u")), (width * p, width * q))
                    self.assertEqual(len(walk), width * (p + q))
                    widths.add(width)
                told = {width for width, _ in room_sizes_along(world, (p, q))}
                self.assertEqual(widths, told)

    def test_along_the_round(self):
        for world in mixed_worlds()[::4]:
            for p, q in SMALL_ONES:
                listing = pieces(world, p, q)
                for piece in range(0, len(listing), 3):
                    here, rest = piece, piece_walk(world, piece, p, q)
                    while rest:
                        letters, _, rest = rest.partition("u")
                        self.assertEqual(letters, "r" * ((here % q + p) // q))
                        square = walked(world, here // q, letters + "u")
                        here = listing[here]
                        self.assertEqual(square, here // q)
                    self.assertEqual(here, piece)

    def test_they_do_not_cross(self):
        many = 0
        for world in mixed_worlds()[::4]:
            for p, q in SMALL_ONES[::2]:
                walks = [(k // q, piece_walk(world, k, p, q)) for k in range(q * len(world[0]))]
                for one, other in product(walks[::3], walks[1::4]):
                    many += one[1] != other[1]
                    self.assertEqual(crossing(world, *one, *other), 0)
        self.assertGreater(many, 100)

    def test_long_ones(self):
        for n, p, q in ((8, 1, 49), (8, 3, 47), (8, 49, 1), (8, 47, 3), (5, 33, 47)):
            self.assertEqual(len(piece_walk(row_of(n), 0, p, q)), 400)
        for n, p, q in ((6, 17, 50), (8, 1, 50), (8, 49, 2), (7, 50, 9), (8, 49, 50)):
            for piece in (0, n * q - 1):
                with self.assertRaises(TooLong) as caught:
                    piece_walk(row_of(n), piece, p, q)
                self.assertEqual(caught.exception.limit, 400)


class TestChordsTo(unittest.TestCase):
    def test_by_hand(self):
        # Each line of LESSON ends behind one step, and three begin.
        self.assertEqual(chords_to(LESSON, 1), ((1, 6),))
        self.assertEqual(chords_to(LESSON, 2), ((1, 6), (2, 6)))
        self.assertEqual(chords_to(LESSON, 10), ((1, 6), (2, 6), (5, 12), (10, 12)))
        # To the right they are of the lengths 1, 1 and 2, and so upward.
        self.assertEqual(chords_to(HOOK, 1), ((1, 5),))
        self.assertEqual(chords(HOOK, 1, 0), (1, 1, 2))
        self.assertEqual(chords(HOOK, 0, 1), (1, 1, 1))
        self.assertEqual(chords_to(HOOK, 4)[0], (1, 5))
        self.assertEqual(dict(chords_to(HOOK, 4))[4], 1)

    def test_no_great_corner(self):
        for world in (ONE_SQUARE, row_of(3), ((1, 0, 3, 2), (2, 3, 0, 1))):
            for most in (1, 200):
                self.assertEqual(chords_to(world, most), ())

    def test_direction_by_direction(self):
        for world in mixed_worlds()[::4]:
            for most in (1, 2, 17, 90, 200):
                told = chords_to(world, most)
                self.assertEqual(told, all_chords(world, most))
                self.assertEqual(list(told), sorted(told))

    def test_to_the_left(self):
        # Not the same for what leans to the other side.
        unlike = [
            world
            for world in mixed_worlds()
            if kind(world) != () and chords(world, 1, 1) != chords(done(world, "c"), 1, 1)
        ]
        self.assertGreater(len(unlike), 5)
        for world in unlike[::3]:
            self.assertEqual(chords_to(world, 2), all_chords(world, 2))

    def test_alike(self):
        for world in mixed_worlds()[::3]:
            told = chords_to(world, 60)
            self.assertEqual(chords_to(renamed(world, mixed(len(world[0]), 5)), 60), told)
            self.assertEqual(chords_to(done(world, "c"), 60), told)

    def test_as_many_as_turns(self):
        # The chords along (1, 0) and (0, 1) have squares of at most 64.
        for world in mixed_worlds()[::3]:
            self.assertEqual(len(chords(world, 1, 0)), sum(kind(world)))
            many = sum(times for square, times in chords_to(world, 1))
            told = [k for p, q in ((1, 0), (0, 1)) for k in chords(world, p, q) if k == 1]
            self.assertEqual(many, len(told))


if __name__ == "__main__":
    unittest.main()
