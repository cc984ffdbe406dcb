"""[72], [73]: worlds as in a mirror, and double covers."""

import unittest

from sample import GREAT, LESSON, ONE_SQUARE, TOO_GREAT, mixed_worlds
from squareworlds.corners import corner_indices, corners, holes, kind
from squareworlds.covers import maps, moves
from squareworlds.deeds import done
from squareworlds.errors import TooMany
from squareworlds.lists import worlds
from squareworlds.lots import are_of_one_lot, lot
from squareworlds.mirrors import double_covers, is_mirror_alike, is_mirror_lot, mirrored
from squareworlds.walks import flat, flats
from squareworlds.worlds import are_alike, least_form, world_breach

# Not alike to its mirrored world, but of one lot with it; not even that.
LEANING = ((1, 2, 0), (2, 0, 1))
ONE_HANDED = ((0, 1, 3, 4, 2, 5), (1, 2, 0, 4, 5, 3))


def covers_twice(cover, world):
    """Tell whether there is a map with two corners of the same turn over each."""
    indices = corner_indices(world)
    for f in maps(cover, world):
        over = [[] for _ in corners(world)]
        for corner in corners(cover):
            over[indices[f[corner[0]]]].append(len(corner))
        if over == [[len(corner)] * 2 for corner in corners(world)]:
            return True
    return False


class TestMirrored(unittest.TestCase):
    def test_by_hand(self):
        self.assertEqual(mirrored(ONE_SQUARE), ONE_SQUARE)
        self.assertEqual(mirrored(LESSON), LESSON)
        self.assertEqual(mirrored(LEANING), ((2, 0, 1), (2, 0, 1)))
        self.assertEqual(mirrored(((1, 2, 0, 3), (3, 1, 2, 0))), ((2, 0, 1, 3), (3, 1, 2, 0)))

    def test_twice(self):
        for world in mixed_worlds():
            self.assertEqual(mirrored(mirrored(world)), world)
            self.assertEqual(kind(mirrored(world)), kind(world))
            for square, there in enumerate(world[0]):
                self.assertEqual(mirrored(world)[0][there], square)
            self.assertEqual(mirrored(world)[1], world[1])

    def test_letters(self):
        for world in mixed_worlds():
            for letter in "abcABC":
                there = done(mirrored(world), letter)
                self.assertTrue(are_alike(there, mirrored(done(world, letter.swapcase()))))

    def test_alike(self):
        self.assertIs(is_mirror_alike(LESSON), True)
        self.assertIs(is_mirror_alike(LEANING), False)
        self.assertIs(is_mirror_alike(ONE_HANDED), False)
        self.assertIs(is_mirror_alike(GREAT), True)
        for world in mixed_worlds():
            told = least_form(world) == least_form(mirrored(world))
            self.assertIs(is_mirror_alike(world), told)

    def test_lots(self):
        self.assertIs(is_mirror_lot(LESSON), True)
        self.assertIs(is_mirror_lot(LEANING), True)
        self.assertIs(is_mirror_lot(ONE_HANDED), False)
        for world in [ONE_HANDED, mirrored(ONE_HANDED)] + mixed_worlds()[::2]:
            if len(world[0]) < 6 or world[0] in (ONE_HANDED[0], mirrored(ONE_HANDED)[0]):
                forms = lot(mirrored(world))
                self.assertEqual(len(forms), len(lot(world)))
                self.assertIs(is_mirror_lot(world), least_form(world) in forms)
                self.assertIs(is_mirror_lot(world), are_of_one_lot(mirrored(world), world))

    def test_too_many(self):
        # Even where the mirrored world is alike to the world.
        for world in (GREAT, TOO_GREAT):
            self.assertIs(is_mirror_alike(world), True)
            with self.assertRaises(TooMany) as caught:
                is_mirror_lot(world)
            self.assertEqual(caught.exception.limit, 500)


class TestDoubleCovers(unittest.TestCase):
    def test_by_hand(self):
        self.assertEqual(double_covers(ONE_SQUARE), flats(2))
        for n in (2, 3, 4):
            for form in flats(n):
                told = double_covers(form)
                self.assertTrue(set(told) <= set(flats(2 * n)))
                self.assertIn(len(told), (1, 2, 3))
        # Twice as wide, twice as high, and askew.
        self.assertEqual(
            double_covers(((1, 2, 0), (0, 1, 2))),
            tuple(sorted([flat(6, 0, 1), flat(3, 0, 2), flat(6, 3, 1)])),
        )
        self.assertEqual(double_covers(((1, 0), (0, 1)))[0], flat(2, 0, 2))

    def test_through_all_worlds(self):
        for n in (1, 2, 3):
            for world in worlds(n):
                told = [cover for cover in worlds(2 * n) if covers_twice(cover, world)]
                self.assertEqual(double_covers(world), tuple(told))

    def test_what_they_are(self):
        for n in (1, 2, 3, 4):
            for world in worlds(n):
                told = double_covers(world)
                self.assertEqual(list(told), sorted(set(told)))
                for cover in told:
                    self.assertIsNone(world_breach(cover))
                    self.assertEqual(least_form(cover), cover)
                    self.assertEqual(len(cover[0]), 2 * n)
                    self.assertTrue(covers_twice(cover, world))
                    self.assertEqual(holes(cover), 2 * holes(world) - 1)
                    twice = sorted(kind(world) + kind(world), reverse=True)
                    self.assertEqual(kind(cover), tuple(twice))

    def test_how_many_ways(self):
        # There are 2 ^ (2 h) choices on the classes of round walks, one of them
        # not to cross at all. Each other one is told by a map of one cover, and
        # by two such maps if a move leads from one to the other.
        for n in (1, 2, 3, 4):
            for world in worlds(n):
                ways = 0
                for cover in double_covers(world):
                    ways += 2 * len(maps(cover, world)) // len(moves(cover))
                self.assertEqual(ways, 4 ** holes(world) - 1)

    def test_named_anew_and_led(self):
        for world in mixed_worlds():
            if len(world[0]) < 5:
                self.assertEqual(double_covers(world), double_covers(least_form(world)))
                for letter in "abc":
                    behind = {least_form(done(cover, letter)) for cover in double_covers(world)}
                    self.assertEqual(double_covers(done(world, letter)), tuple(sorted(behind)))

    def test_too_many(self):
        for world in mixed_worlds() + [GREAT]:
            if len(world[0]) > 4:
                with self.assertRaises(TooMany) as caught:
                    double_covers(world)
                self.assertEqual(caught.exception.limit, 8)


if __name__ == "__main__":
    unittest.main()
