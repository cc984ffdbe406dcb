"""[9], [10], [11]: deeds, words and matrices."""

import unittest
from math import gcd

from sample import LESSON, ONE_SQUARE, mixed_worlds
from squareworlds.corners import kind
from squareworlds.deeds import done, matrix, word_of
from squareworlds.errors import NotMatrix, NotWord, TooLong
from squareworlds.worlds import are_alike

LETTERS = "abcABC"
WORDS = ("", "a", "ab", "aBc", "CAb", "bbAcB", "abABcCca", "aBa")
MATRICES = {
    "": ((1, 0), (0, 1)),
    "a": ((1, 1), (0, 1)),
    "A": ((1, -1), (0, 1)),
    "b": ((1, 0), (1, 1)),
    "B": ((1, 0), (-1, 1)),
    "c": ((0, 1), (-1, 0)),
    "C": ((0, -1), (1, 0)),
    "aBa": ((0, 1), (-1, 0)),
    # The matrix of "b" times that of "a".
    "ab": ((1, 1), (1, 2)),
    "ba": ((2, 1), (1, 1)),
    "cc": ((-1, 0), (0, -1)),
    "aaa": ((1, 3), (0, 1)),
}


class Text(str):
    """A string is a string, also of a class of its own."""


def times(one, other):
    (a, b), (c, d) = one
    (e, f), (g, h) = other
    return ((a * e + b * g, a * f + b * h), (c * e + d * g, c * f + d * h))


def undone_word(word):
    return word[::-1].swapcase()


class TestDone(unittest.TestCase):
    def test_letters_by_hand(self):
        world = ((1, 2, 0), (0, 2, 1))
        self.assertEqual(done(world, ""), world)
        # u[s] is up[left(s)], left being (2, 0, 1).
        self.assertEqual(done(world, "a"), ((1, 2, 0), (1, 0, 2)))
        self.assertEqual(done(world, "A"), ((1, 2, 0), (2, 1, 0)))
        # r[s] is right[down(s)], down being (0, 2, 1).
        self.assertEqual(done(world, "b"), ((1, 0, 2), (0, 2, 1)))
        self.assertEqual(done(world, "B"), ((1, 0, 2), (0, 2, 1)))
        self.assertEqual(done(world, "c"), ((0, 2, 1), (2, 0, 1)))
        self.assertEqual(done(world, "C"), ((0, 2, 1), (1, 2, 0)))

    def test_letters_as_told(self):
        for world in mixed_worlds():
            right, up = world
            leant, lifted, turned = (done(world, letter) for letter in "abc")
            self.assertEqual((leant[0], lifted[1], turned[0]), (right, up, up))
            for s in range(len(right)):
                self.assertEqual(leant[1][right[s]], up[s])
                self.assertEqual(lifted[0][up[s]], right[s])
                self.assertEqual(turned[1][right[s]], s)

    def test_letters_undo_each_other(self):
        for world in mixed_worlds():
            for letter in LETTERS:
                self.assertEqual(done(world, letter + letter.swapcase()), world)
            for word in WORDS:
                self.assertEqual(done(done(world, word), undone_word(word)), world)

    def test_letter_by_letter(self):
        for world in mixed_worlds():
            there = world
            for letter in "abcABCaabbccBA":
                there = done(there, letter)
                self.assertEqual(kind(there), kind(world))
            self.assertEqual(done(world, "abcABCaabbccBA"), there)

    def test_one_matrix_leads_to_alike_worlds(self):
        for world in mixed_worlds():
            self.assertTrue(are_alike(done(world, "aBa"), done(world, "c")))
            self.assertTrue(are_alike(done(world, "BaB"), done(world, "c")))
            for word in WORDS:
                other = word_of(matrix(word))
                self.assertTrue(are_alike(done(world, word), done(world, other)))


class TestWords(unittest.TestCase):
    def check_place(self, value, place):
        with self.assertRaises(NotWord) as caught:
            done(LESSON, value)
        self.assertEqual(caught.exception.place, place)
        with self.assertRaises(NotWord) as caught:
            matrix(value)
        self.assertEqual(caught.exception.place, place)

    def test_what_is_no_string(self):
        for value in (None, 0, True, b"a", b"", (), ("a",), ["a", "b"], {"a": 1}, {"a"}, 1.5):
            self.check_place(value, -1)

    def test_wrong_signs(self):
        for sign in ("d", "D", " ", "1", "\n", "\u0430", "\u00e9", "r"):
            self.check_place(sign, 0)
            self.check_place(sign + "a" * 600, 0)
            self.check_place("ab" + sign + sign, 2)
            self.check_place("a" * 399 + sign, 399)
            self.check_place("a" * 399 + sign + "a", 399)
            self.check_place("a" * 400 + sign, 400)
            self.check_place("a" * 500 + sign, 400)

    def test_too_many_letters(self):
        self.check_place("a" * 401, 400)
        self.check_place("abcABC" * 100, 400)

    def test_four_hundred_letters(self):
        word = "abcB" * 100
        there = LESSON
        for letter in word:
            there = done(there, letter)
        self.assertEqual(done(LESSON, word), there)
        self.assertEqual(matrix("a" * 400), ((1, 400), (0, 1)))

    def test_strings_of_other_classes(self):
        self.assertEqual(done(LESSON, Text("ab")), done(LESSON, "ab"))


class TestMatrix(unittest.TestCase):
    def test_by_hand(self):
        for word, value in MATRICES.items():
            self.assertEqual(matrix(word), value, word)

    def test_one_more_letter(self):
        for word in WORDS:
            for letter in LETTERS:
                value = times(matrix(letter), matrix(word))
                self.assertEqual(matrix(word + letter), value)

    def test_undoing(self):
        for word in WORDS:
            self.assertEqual(matrix(word + undone_word(word)), matrix(""))


def matrices_in(entries, bound):
    """Matrices of determinant 1 with the first column of these entries."""
    for a in entries:
        for c in entries:
            if gcd(a, c) != 1:
                continue
            for b in entries:
                if a == 0:
                    for d in entries:
                        if -b * c == 1:
                            yield ((a, b), (c, d))
                elif (1 + b * c) % a == 0 and abs((1 + b * c) // a) <= bound:
                    yield ((a, b), (c, (1 + b * c) // a))


class TestWordOf(unittest.TestCase):
    def check_word(self, value):
        word = word_of(value)
        self.assertIsInstance(word, str)
        self.assertLessEqual(len(word), 400)
        self.assertEqual(matrix(word), value)

    def test_small_entries(self):
        for value in matrices_in(range(-7, 8), 7):
            self.check_word(value)

    def test_entries_up_to_the_bound_in_each_place(self):
        entries = (-200, -199, -198, -133, -101, -100, -55, -1, 0, 1, 2, 89, 100, 144, 199, 200)
        met = set()
        for value in matrices_in(entries, 200):
            self.check_word(value)
            flat = value[0] + value[1]
            met |= {(place, entry) for place, entry in enumerate(flat)}
        for place in range(4):
            self.assertIn((place, 200), met)
            self.assertIn((place, -200), met)

    def test_the_greatest_leaning(self):
        for m in (200, -200):
            self.check_word(((1, m), (0, 1)))
            self.check_word(((1, 0), (m, 1)))
            self.check_word(((-1, m), (0, -1)))
            self.check_word(((0, -1), (1, m)))
            self.check_word(((m, -1), (1, 0)))

    def test_no_matrix(self):
        wrong = [
            None,
            1,
            True,
            "ab",
            b"ab",
            (),
            ((1, 0),),
            ((1, 0), (0, 1), (0, 0)),
            (1, 0, 0, 1),
            [(1, 0), (0, 1)],
            ([1, 0], (0, 1)),
            ((1, 0), [0, 1]),
            ((1, 0), (0,)),
            ((1, 0, 0), (0, 1)),
            ((1, 0), (0, 1, 0)),
            ((1, 0), None),
            ((1, 0), "01"),
            ((True, 0), (0, 1)),
            ((1, False), (0, 1)),
            ((1, 0), (False, 1)),
            ((1, 0), (0, True)),
            ((1.0, 0), (0, 1)),
            ((1, 0), (0, "1")),
            ((1, None), (0, 1)),
            ((0, 0), (0, 0)),
            ((1, 0), (0, -1)),
            ((2, 0), (0, 2)),
            ((0, 1), (1, 0)),
            ((1, 1), (1, 1)),
            # The determinant is asked for ahead of the greatness.
            ((201, 0), (0, 1)),
            ((10 ** 40, 0), (0, 10 ** 40)),
            ((10 ** 40, 1), (1, 10 ** 40)),
            ((201, 0), (0, True)),
        ]
        for value in wrong:
            with self.subTest(value=value):
                with self.assertRaises(NotMatrix):
                    word_of(value)

    def test_too_long(self):
        great = [
            ((1, 201), (0, 1)),
            ((1, -201), (0, 1)),
            ((1, 0), (201, 1)),
            ((1, 0), (-201, 1)),
            ((201, -1), (1, 0)),
            ((-201, -1), (1, 0)),
            ((0, -1), (1, 201)),
            ((0, -1), (1, -201)),
            ((10 ** 40, 10 ** 40 - 1), (1, 1)),
        ]
        for value in great:
            with self.subTest(value=value):
                with self.assertRaises(TooLong) as caught:
                    word_of(value)
                self.assertEqual(caught.exception.limit, 400)

    def test_a_world_is_led_as_by_the_word(self):
        self.assertEqual(done(ONE_SQUARE, word_of(((5, 2), (2, 1)))), ONE_SQUARE)


if __name__ == "__main__":
    unittest.main()
