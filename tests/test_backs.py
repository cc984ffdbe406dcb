"""[14], [15]: what brings a world back, widths and the shape of a lot."""

import unittest

from sample import GREAT, LESSON, NEARLY_TOO_GREAT, ONE_SQUARE, TOO_GREAT, mixed_worlds
from squareworlds.backs import back_time, brings_back, lot_shape, widths
from squareworlds.deeds import done, matrix
from squareworlds.errors import NotMatrix, NotWord, TooLong, TooMany
from squareworlds.lots import lot, lot_rows
from squareworlds.worlds import are_alike

TALL = ((0, 1), (1, 0))
WORDS = ("", "a", "b", "c", "cc", "aa", "ab", "aB", "abab", "aabb", "bAAb", "cacacb")

# Each with a word that must be done so often, and once more often.
FIVE_HUNDRED = (((0, 1, 3, 2, 5, 6, 7, 4), (1, 2, 3, 4, 5, 7, 6, 0)), "abbbbbabaa")
ONE_MORE = (((0, 1, 2, 4, 3, 5, 7, 6), (1, 2, 3, 0, 5, 6, 4, 7)), "abaabbabaaaa")


def undone_word(word):
    return word[::-1].swapcase()


class TestBringsBack(unittest.TestCase):
    def test_by_hand(self):
        self.assertIs(brings_back(TALL, ((1, 1), (0, 1))), True)
        self.assertIs(brings_back(TALL, ((1, 0), (1, 1))), False)
        self.assertIs(brings_back(TALL, ((1, 0), (2, 1))), True)
        self.assertIs(brings_back(ONE_SQUARE, ((200, 199), (1, 1))), True)
        self.assertIs(brings_back(LESSON, ((-1, 0), (0, -1))), True)

    def test_matrices_of_words(self):
        for world in mixed_worlds():
            for word in WORDS:
                back = are_alike(done(world, word), world)
                self.assertIs(brings_back(world, matrix(word)), back)
                self.assertIs(brings_back(world, matrix(undone_word(word))), back)

    def test_no_lot_is_needed(self):
        self.assertIs(brings_back(GREAT, ((1, 0), (0, 1))), True)
        self.assertIs(brings_back(GREAT, ((1, 1), (0, 1))), False)

    def test_wrong_values(self):
        wrong = [None, 1, (), "ab", ((1, 0), (0, True)), [(1, 0), (0, 1)], ((1, 1), (1, 1))]
        wrong += [((201, 0), (0, 1)), ((10 ** 30, 0), (0, 2))]
        for value in wrong:
            with self.assertRaises(NotMatrix):
                brings_back(LESSON, value)
        for value in (((1, 201), (0, 1)), ((1, 0), (-201, 1))):
            with self.assertRaises(TooLong) as caught:
                brings_back(GREAT, value)
            self.assertEqual(caught.exception.limit, 400)


class TestBackTime(unittest.TestCase):
    def test_by_hand(self):
        self.assertEqual(back_time(TALL, "a"), 1)
        self.assertEqual(back_time(TALL, "b"), 2)
        self.assertEqual(back_time(TALL, "ab"), 3)
        self.assertEqual(back_time(ONE_SQUARE, "abc"), 1)
        self.assertEqual(back_time(LESSON, ""), 1)

    def test_the_least_number(self):
        for world in mixed_worlds():
            for word in ("a", "b", "c", "aB", "aab"):
                times = back_time(world, word)
                there = world
                for k in range(1, times + 1):
                    there = done(there, word)
                    self.assertEqual(are_alike(there, world), k == times)
                self.assertEqual(back_time(world, undone_word(word)), times)

    def test_up_to_five_hundred_times(self):
        world, word = FIVE_HUNDRED
        self.assertEqual(back_time(world, word), 500)
        self.assertEqual(back_time(world, undone_word(word)), 500)

    def test_more_than_five_hundred_times(self):
        world, word = ONE_MORE
        there = world
        for _ in range(501):
            there = done(there, word)
        self.assertTrue(are_alike(there, world))
        for way in (word, undone_word(word)):
            with self.assertRaises(TooMany) as caught:
                back_time(world, way)
            self.assertEqual(caught.exception.limit, 500)

    def test_no_lot_is_needed(self):
        self.assertEqual(back_time(GREAT, ""), 1)
        self.assertEqual(back_time(TOO_GREAT, "aA"), 1)

    def test_wrong_words(self):
        world, word = ONE_MORE
        wrong = ((None, -1), (("a",), -1), (b"a", -1), ("x", 0), (word + "r", len(word)))
        wrong += (("ab" * 200 + "a", 400), ("ab" * 199 + "a!", 399))
        for value, place in wrong:
            with self.assertRaises(NotWord) as caught:
                back_time(world, value)
            self.assertEqual(caught.exception.place, place)


class TestShape(unittest.TestCase):
    def test_by_hand(self):
        self.assertEqual(widths(ONE_SQUARE), (1,))
        self.assertEqual(lot_shape(ONE_SQUARE), (1, 1, 1, 1, 0))
        self.assertEqual(widths(TALL), (1, 2))
        self.assertEqual(lot_shape(TALL), (3, 1, 0, 2, 0))
        self.assertEqual(widths(LESSON), (1, 2))
        self.assertEqual(lot_shape(LESSON), (3, 1, 0, 2, 0))
        # Three flat squares: one upright, and a round of three.
        self.assertEqual(widths(((1, 2, 0), (0, 1, 2))), (1, 3))
        self.assertEqual(lot_shape(((1, 2, 0), (0, 1, 2))), (4, 0, 1, 2, 0))
        # Five and seven flat squares, with more than one left where it is.
        five = ((0, 1, 2, 3, 4), (1, 2, 3, 4, 0))
        self.assertEqual(widths(five), (1, 5))
        self.assertEqual(lot_shape(five), (6, 2, 0, 2, 0))
        seven = ((0, 1, 2, 3, 4, 5, 6), (1, 2, 3, 4, 5, 6, 0))
        self.assertEqual(lot_shape(seven), (8, 0, 2, 2, 0))

    def test_more_than_no_hole(self):
        world = ((0, 1, 2, 4, 3, 6, 5), (1, 2, 3, 4, 5, 0, 6))
        self.assertEqual(len(lot(world)), 360)
        self.assertEqual(lot_shape(world), (180, 0, 0, 30, 1))
        world = ((0, 2, 1, 3, 5, 4, 7, 6), (1, 2, 3, 4, 0, 6, 5, 7))
        self.assertEqual(lot_shape(world), (330, 2, 0, 50, 3))

    def test_against_the_rows(self):
        for world in mixed_worlds():
            if len(world[0]) > 6:
                continue
            lean, lift, turn = lot_rows(world)
            drop = [lift.index(k) for k in range(len(lift))]
            pairs = {frozenset((k, turn[turn[k]])) for k in range(len(lean))}
            e = [p for p in pairs if {turn[k] for k in p} == p]
            f = [p for p in pairs if {drop[lean[k]] for k in p} == p]
            g = set()
            for k in range(len(lean)):
                met = set()
                while k not in met:
                    met |= {k, turn[turn[k]]}
                    k = lean[k]
                g.add(frozenset(met))
            d, e, f, g = len(pairs), len(e), len(f), len(g)
            shape = lot_shape(world)
            self.assertEqual(shape[:4], (d, e, f, g))
            self.assertEqual(12 * shape[4], 12 + d - 3 * e - 4 * f - 6 * g)
            self.assertGreaterEqual(shape[4], 0)
            self.assertEqual(lot_shape(done(world, "ab")), shape)

    def test_pairs(self):
        # Here "cc" leads some worlds to others, so there are fewer pairs.
        world = ((0, 2, 1, 4, 3), (1, 2, 3, 0, 4))
        self.assertEqual(len(lot(world)), 12)
        self.assertEqual(lot_shape(world), (6, 0, 0, 3, 0))

    def test_widths(self):
        for world in mixed_worlds() + [NEARLY_TOO_GREAT]:
            if len(world[0]) > 6 and world != NEARLY_TOO_GREAT:
                continue
            told = widths(world)
            self.assertEqual(list(told), sorted(told))
            self.assertEqual(sum(told), len(lot(world)))
            times = [back_time(form, "a") for form in lot(world)]
            for width in set(told):
                self.assertEqual(times.count(width), width * told.count(width))

    def test_too_many(self):
        for function in (widths, lot_shape):
            for world in (GREAT, TOO_GREAT):
                with self.assertRaises(TooMany) as caught:
                    function(world)
                self.assertEqual(caught.exception.limit, 500)


if __name__ == "__main__":
    unittest.main()
