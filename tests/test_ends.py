"""[61], [62]: ends, and the words of which all that bring a world back come."""

import unittest
from itertools import product
from math import gcd

from sample import GREAT, LESSON, NEARLY_TOO_GREAT, ONE_SQUARE, TOO_GREAT, mixed, mixed_worlds
from squareworlds.backs import widths
from squareworlds.deeds import done, matrix, undoing, word_of
from squareworlds.ends import back_words, end_of, ends
from squareworlds.errors import TooMany
from squareworlds.listings import round_from
from squareworlds.lots import lot, lot_rows, way
from squareworlds.worlds import are_alike, least_form, renamed

TALL = ((0, 1), (1, 0))
CIRCLE = ((1, 2, 0), (0, 1, 2))
DIRECTIONS = [(p, q) for p in range(-4, 5) for q in range(-4, 5) if gcd(p, q) == 1]
FAR = [(50, 49), (-50, 49), (50, -1), (-49, -50), (1, 50), (17, -44), (-27, 50)]


def worlds_of_few_squares():
    return [world for world in mixed_worlds() if len(world[0]) < 6][::3]


def worlds_of_small_lots():
    return [world for world in worlds_of_few_squares() if len(lot(world)) < 25] + [CIRCLE]


def word_to(p, q):
    """A word whose matrix leads (p, q) to (1, 0)."""
    for x in range(-60, 61):
        for y in range(-60, 61):
            if x * p + y * q == 1:
                return word_of(((x, y), (-q, p)))
    return None


def times(one, other, most):
    """The product of two matrices, by remainders."""
    columns = list(zip(*other))
    return tuple(
        tuple(sum(a * b for a, b in zip(row, column)) % most for column in columns)
        for row in one
    )


class TestEnds(unittest.TestCase):
    def test_by_hand(self):
        self.assertEqual(ends(ONE_SQUARE), ((0,),))
        self.assertEqual(ends(LESSON), ((0, 1), (2,)))
        self.assertEqual(ends(TALL), ((0,), (1, 2)))

    def test_rounds(self):
        for world in worlds_of_few_squares() + [NEARLY_TOO_GREAT]:
            lean = lot_rows(world)[0]
            told = ends(world)
            self.assertEqual(list(told), sorted(told))
            self.assertEqual(sorted(sum(told, ())), list(range(len(lean))))
            for end in told:
                self.assertEqual(end[0], min(end))
                self.assertEqual(end, round_from(lean, end[0]))
            self.assertEqual(tuple(sorted(map(len, told))), widths(world))

    def test_the_same_in_a_lot(self):
        for world in worlds_of_few_squares():
            self.assertEqual(ends(done(world, "abC")), ends(world))


class TestEndOf(unittest.TestCase):
    def test_by_hand(self):
        for p, q in DIRECTIONS + FAR:
            self.assertEqual(end_of(ONE_SQUARE, (p, q)), 0)
            self.assertEqual(end_of(LESSON, (p, q)), p * q % 2)
            self.assertEqual(end_of(TALL, (p, q)), q % 2)

    def test_it_does_not_depend_on_the_word(self):
        for world in worlds_of_small_lots()[::2]:
            forms = lot(world)
            for p, q in DIRECTIONS[::3] + FAR[::2]:
                index = end_of(world, (p, q))
                word = word_to(p, q)
                for more in ("", "a", "AAA", "aaaaaaa", "aBabAb", "cccc"):
                    place = forms.index(least_form(done(world, word + more)))
                    self.assertIn(place, ends(world)[index])

    def test_back_words_leave_it(self):
        for world in worlds_of_small_lots()[::2]:
            for word in back_words(world)[::3]:
                (a, b), (c, d) = matrix(word)
                for p, q in DIRECTIONS[::5]:
                    there = (a * p + b * q, c * p + d * q)
                    self.assertEqual(end_of(world, there), end_of(world, (p, q)))

    def test_what_leads_directions_of_one_end_to_one_another(self):
        for world in worlds_of_small_lots()[::3]:
            most = max(map(len, ends(world)))
            for one, other in product(DIRECTIONS[::6], repeat=2):
                back = undoing(word_to(*other))
                words = [word_to(*one) + "a" * k + back for k in range(most)]
                led = any(are_alike(done(world, word), world) for word in words)
                self.assertEqual(led, end_of(world, one) == end_of(world, other))

    def test_no_ends_of_great_lots(self):
        for world in (GREAT, TOO_GREAT):
            for call in (lambda: ends(world), lambda: end_of(world, (3, 2))):
                with self.assertRaises(TooMany) as caught:
                    call()
                self.assertEqual(caught.exception.limit, 500)
        self.assertLess(end_of(NEARLY_TOO_GREAT, (3, 2)), len(ends(NEARLY_TOO_GREAT)))


class TestBackWords(unittest.TestCase):
    def test_by_hand(self):
        self.assertEqual(back_words(ONE_SQUARE), ("a", "b"))
        self.assertEqual(back_words(LESSON), ("aa", "bb", "Aa", "Aba", "Bab", "Bb"))
        self.assertEqual(back_words(TALL), ("a", "bb", "BAab", "BAbab", "Baab", "Bb"))

    def test_words_by_ways(self):
        for world in worlds_of_small_lots():
            told = []
            for form in lot(world):
                for letter in "ab":
                    there = way(world, form) + letter
                    straight_there = way(world, done(form, letter))
                    if there != straight_there:
                        told.append(there + undoing(straight_there))
            self.assertEqual(back_words(world), tuple(told))

    def test_how_many(self):
        # To the four worlds of this lot lead "", "A", "a" and "Ab".
        self.assertEqual(len(back_words(CIRCLE)), 6)
        for world in worlds_of_small_lots():
            forms = lot(world)
            left_out = [form for form in forms if way(world, form)[-1:] in ("a", "b")]
            self.assertEqual(len(back_words(world)), 2 * len(forms) - len(left_out))

    def test_each_brings_back(self):
        for world in worlds_of_few_squares() + [NEARLY_TOO_GREAT]:
            for word in back_words(world):
                self.assertTrue(are_alike(done(world, word), world))

    def test_all_that_bring_back_are_products(self):
        for world in [LESSON, TALL, CIRCLE] + worlds_of_small_lots()[-3:]:
            for most in (3, 4, 5):
                steps = [times(matrix(word), ((1, 0), (0, 1)), most) for word in back_words(world)]
                met = [((1, 0), (0, 1))]
                for here in met:
                    met += {times(step, here, most) for step in steps} - set(met)
                for length in range(6):
                    for letters in product("aBb", repeat=length):
                        word = "".join(letters)
                        if are_alike(done(world, word), world):
                            self.assertIn(times(matrix(word), ((1, 0), (0, 1)), most), met)

    def test_named_anew(self):
        for world in worlds_of_few_squares():
            anew = renamed(least_form(world), mixed(len(world[0]), 3))
            self.assertEqual(back_words(anew), back_words(world))
            self.assertEqual(back_words(least_form(world)), back_words(world))

    def test_no_words_of_great_lots(self):
        for world in (GREAT, TOO_GREAT):
            with self.assertRaises(TooMany) as caught:
                back_words(world)
            self.assertEqual(caught.exception.limit, 500)


if __name__ == "__main__":
    unittest.main()
