"""[58]: two worlds glued crosswise along a slit."""

import unittest

from sample import LESSON, ONE_SQUARE, mixed_worlds
from squareworlds.corners import corners, corners_of, holes, kind
from squareworlds.errors import TooMany
from squareworlds.slits import slit
from squareworlds.worlds import are_alike, world_breach

TALL = ((0, 1), (1, 0))
LONG = ((1, 0), (0, 1))


def pairs_to_slit():
    """Pairs of a world and one of its squares, of which two make few squares."""
    for one in mixed_worlds()[::3]:
        for other in mixed_worlds()[1::4]:
            if len(one[0]) + len(other[0]) <= 8:
                for s in range(len(one[0])):
                    yield one, s, other, (s * 7 + 1) % len(other[0])


class TestSlit(unittest.TestCase):
    def test_by_hand(self):
        self.assertEqual(slit(ONE_SQUARE, 0, ONE_SQUARE, 0), TALL)
        self.assertEqual(slit(LESSON, 1, ONE_SQUARE, 0), ((1, 0, 2, 3), (2, 3, 0, 1)))
        self.assertEqual(slit(LESSON, 0, ONE_SQUARE, 0), ((1, 0, 2, 3), (3, 1, 0, 2)))
        self.assertEqual(slit(ONE_SQUARE, 0, LESSON, 0), ((0, 2, 1, 3), (3, 0, 2, 1)))
        self.assertEqual(slit(LONG, 0, LONG, 1), ((1, 0, 3, 2), (3, 1, 2, 0)))

    def test_what_changes(self):
        for one, s, other, t in pairs_to_slit():
            n = len(one[0])
            right, up = slit(one, s, other, t)
            self.assertIsNone(world_breach((right, up)))
            self.assertEqual(right[:n], one[0])
            self.assertEqual(right[n:], tuple(square + n for square in other[0]))
            for square in range(n):
                if square != s:
                    self.assertEqual(up[square], one[1][square])
            for square in range(len(other[0])):
                if square != t:
                    self.assertEqual(up[n + square], n + other[1][square])
            self.assertEqual((up[s], up[n + t]), (n + other[1][t], one[1][s]))

    def test_exchanged(self):
        for one, s, other, t in pairs_to_slit():
            self.assertTrue(are_alike(slit(one, s, other, t), slit(other, t, one, s)))

    def test_corners_at_the_slit(self):
        self.assertEqual(kind(slit(LONG, 0, LONG, 1)), (2, 2))
        many = 0
        for one, s, other, t in pairs_to_slit():
            _, _, left, right = corners_of(one, s)
            _, _, far_left, far_right = corners_of(other, t)
            if left != right and far_left != far_right:
                many += 1
                turns = [len(corner) for corner in corners(one)]
                far_turns = [len(corner) for corner in corners(other)]
                told = [turns[left] + far_turns[far_left], turns[right] + far_turns[far_right]]
                told += [t for i, t in enumerate(turns) if i not in (left, right)]
                told += [t for i, t in enumerate(far_turns) if i not in (far_left, far_right)]
                glued = slit(one, s, other, t)
                self.assertEqual(sorted(map(len, corners(glued))), sorted(told))
                self.assertEqual(holes(glued), holes(one) + holes(other))
                self.assertEqual(
                    len(corners(glued)[corners_of(glued, s)[3]]), told[1]
                )
                self.assertEqual(
                    len(corners(glued)[corners_of(glued, len(one[0]) + t)[2]]), told[0]
                )
        self.assertGreater(many, 40)

    def test_too_many(self):
        by_squares = {}
        for world in mixed_worlds():
            by_squares[len(world[0])] = world
        for n, one in by_squares.items():
            for m, other in by_squares.items():
                if n + m <= 8:
                    self.assertEqual(len(slit(one, n - 1, other, m - 1)[0]), n + m)
                else:
                    with self.assertRaises(TooMany) as caught:
                        slit(one, n - 1, other, m - 1)
                    self.assertEqual(caught.exception.limit, 8)


if __name__ == "__main__":
    unittest.main()
