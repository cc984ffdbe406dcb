"""[50] to [52]: what words that bring a world back do to classes."""

import unittest

from sample import (
    BAD_WORDS,
    LESSON,
    ONE_SQUARE,
    determinant,
    listings,
    mixed_worlds,
    round_walks,
    some_word,
)
from squareworlds.backs import back_time
from squareworlds.classes import class_of, class_walks, count_of, crossing, walk_behind
from squareworlds.corners import corners, holes
from squareworlds.covers import moves
from squareworlds.deeds import done, matrix
from squareworlds.errors import NotBack, NotWord
from squareworlds.listings import undone
from squareworlds.lots import way
from squareworlds.returns import (
    count_behind,
    rest_polynomial,
    return_listing,
    return_polynomial,
    trace_of,
)
from squareworlds.worlds import renamed

TALL = ((0, 1), (1, 0))
# Three holes, and one move alone; two holes and two moves.
UNTURNED = ((0, 2, 1, 4, 3), (1, 2, 3, 0, 4))
TWO_MOVES = ((1, 0, 3, 2), (0, 3, 2, 1))


def words_back(world):
    """Words of at most 200 letters that bring a world back."""
    words = ["", "a" * back_time(world, "a"), "B" * back_time(world, "B"), "cccc"]
    if len(world[0]) < 6:
        for k in range(4):
            word = some_word("abcABC", 2 + k, k)
            words.append(word + way(done(world, word), world))
    else:
        words.append("ab" * back_time(world, "ab"))
    return [word for word in words if len(word) <= 200]


def fewer_worlds():
    return [world for world in mixed_worlds() if len(world[0]) < 8][::4]


def value_at(polynomial, t):
    return sum(entry * t ** k for k, entry in enumerate(polynomial))


def product_of(one, other):
    told = [0] * (len(one) + len(other) - 1)
    for j, a in enumerate(one):
        for k, b in enumerate(other):
            told[j + k] += a * b
    return tuple(told)


class WordCase(unittest.TestCase):
    def check_errors(self, call, not_back):
        for value, place in BAD_WORDS:
            with self.subTest(value=value):
                with self.assertRaises(NotWord) as caught:
                    call(LESSON, value)
                self.assertEqual(caught.exception.place, place)
        if not_back:
            for word in ("a", "b", "ca", "ab", "a" * 399):
                self.assertRaises(NotBack, call, LESSON, word)


class TestReturnListing(WordCase):
    def test_by_hand(self):
        self.assertEqual(return_listing(ONE_SQUARE, "abc"), (0,))
        self.assertEqual(return_listing(LESSON, ""), (0, 1, 2))
        self.assertEqual(return_listing(LESSON, "c"), (0, 2, 1))
        self.assertEqual(return_listing(LESSON, "cc"), (0, 1, 2))
        self.assertEqual(return_listing(TALL, "a"), (0, 1))
        self.assertEqual(return_listing(((1, 2, 0), (0, 1, 2)), "cc"), (0, 2, 1))

    def test_the_least_one(self):
        for world in mixed_worlds():
            if len(world[0]) < 6:
                for word in words_back(world):
                    beyond = done(world, word)
                    told = [p for p in listings(len(world[0])) if renamed(beyond, p) == world]
                    self.assertEqual(return_listing(world, word), min(told))

    def test_errors(self):
        self.check_errors(return_listing, True)


class TestCountBehind(WordCase):
    def test_by_hand(self):
        self.assertEqual(count_behind(ONE_SQUARE, (2, 5), ""), (2, 5))
        told = [count_behind(ONE_SQUARE, (2, 5), letter) for letter in "abcABC"]
        self.assertEqual(told, [(7, 5), (2, 7), (5, -2), (-3, 5), (2, 3), (-5, 2)])
        count = (1, 2, 3, 10, 20, 30)
        self.assertEqual(count_behind(LESSON, count, "a"), (11, 22, 33, 20, 10, 30))
        self.assertEqual(count_behind(LESSON, count, "b"), (3, 2, 1, 11, 22, 33))
        self.assertEqual(count_behind(LESSON, count, "c"), (10, 20, 30, -2, -1, -3))

    def test_as_told(self):
        for world in mixed_worlds():
            right, up = world
            n = len(right)
            count = tuple((7 * k * k + 3 * k) % 23 - 11 for k in range(2 * n))
            told = {letter: [0] * (2 * n) for letter in "abc"}
            for s in range(n):
                across, along = count[s], count[n + s]
                told["a"][s] = across + along
                told["a"][n + right[s]] = along
                told["b"][n + s] = along + across
                told["b"][up[s]] = across
                told["c"][s] = along
                told["c"][n + right[s]] = -across
            for letter in "abc":
                behind = count_behind(world, count, letter)
                self.assertEqual(behind, tuple(told[letter]))
                back = count_behind(done(world, letter), behind, letter.upper())
                self.assertEqual(back, count)
                there = count_behind(world, count, letter.upper() + letter)
                self.assertEqual(there, count)

    def test_count_of_the_walk_behind(self):
        for world in mixed_worlds()[::2]:
            for k, (square, walk) in enumerate(round_walks(world, 4) + [(0, "ru"), (0, "ddl")]):
                word = some_word("abcABC", k, k + 5)
                count = count_of(world, square, walk)
                told = count_of(done(world, word), square, walk_behind(walk, word))
                self.assertEqual(count_behind(world, count, word), told)

    def test_sums_and_long_words(self):
        word = some_word("abcABC", 400, 9)
        for world in fewer_worlds()[::3]:
            n = len(world[0])
            one = tuple(range(2 * n))
            other = tuple(k * k - 5 for k in range(2 * n))
            both = tuple(3 * a - b for a, b in zip(one, other))
            told = count_behind(world, both, word)
            parts = zip(count_behind(world, one, word), count_behind(world, other, word))
            self.assertEqual(told, tuple(3 * a - b for a, b in parts))

    def test_errors(self):
        # It need not bring the world back.
        self.check_errors(lambda world, word: count_behind(world, (0,) * 6, word), False)
        self.assertEqual(count_behind(LESSON, (0,) * 6, "a"), (0,) * 6)


class TestPolynomial(WordCase):
    def test_one_hole(self):
        told = {
            "": (1, -2, 1), "a": (1, -2, 1), "B": (1, -2, 1), "c": (1, 0, 1), "cc": (1, 2, 1),
            "ab": (1, -3, 1), "aB": (1, -1, 1), "aaab": (1, -5, 1), "abcc": (1, 3, 1),
        }
        for word, polynomial in told.items():
            self.assertEqual(return_polynomial(ONE_SQUARE, word), polynomial)
            self.assertEqual(rest_polynomial(ONE_SQUARE, word), (1,))
            self.assertEqual(trace_of(ONE_SQUARE, word), -polynomial[1])
        self.assertEqual(return_polynomial(TALL, "a"), (1, -2, 1))
        self.assertEqual(return_polynomial(TALL, "bb"), (1, -2, 1))
        self.assertEqual(return_polynomial(TALL, "abb"), (1, -4, 1))

    def test_two_holes(self):
        told = {
            "": ((1, -4, 6, -4, 1), (1, -2, 1), 4),
            "c": ((1, 0, 2, 0, 1), (1, 0, 1), 0),
            "cc": ((1, 4, 6, 4, 1), (1, 2, 1), -4),
            "aa": ((1, -4, 6, -4, 1), (1, -2, 1), 4),
            # 1 - 6 t + t t times 1 - 3 t + t t.
            "aabb": ((1, -9, 20, -9, 1), (1, -3, 1), 9),
        }
        for word, (polynomial, rest, trace) in told.items():
            self.assertEqual(return_polynomial(LESSON, word), polynomial)
            self.assertEqual(rest_polynomial(LESSON, word), rest)
            self.assertEqual(trace_of(LESSON, word), trace)

    def test_long_words(self):
        told = return_polynomial(LESSON, "aabb" * 100)
        self.assertEqual(told, told[::-1])
        self.assertEqual(rest_polynomial(LESSON, "aabb" * 100)[::2], (1, 1))
        # The two traces of "aabb" are 6 and 3, and those of its powers follow.
        m, k = [2, 6], [2, 3]
        while len(m) <= 100:
            m.append(6 * m[-1] - m[-2])
            k.append(3 * k[-1] - k[-2])
        self.assertEqual(trace_of(LESSON, "aabb" * 100), m[100] + k[100])

    def test_facts(self):
        for world in fewer_worlds():
            h = holes(world)
            for word in words_back(world):
                polynomial = return_polynomial(world, word)
                (a, _), (_, d) = matrix(word)
                self.assertEqual(len(polynomial), 2 * h + 1)
                self.assertEqual(polynomial[-1], 1)
                self.assertEqual(polynomial, polynomial[::-1])
                rest = rest_polynomial(world, word)
                self.assertEqual(product_of(rest, (1, -a - d, 1)), polynomial)
                self.assertEqual(trace_of(world, word), -polynomial[-2])
                if h == 1:
                    self.assertEqual(rest, (1,))
                if h == 2:
                    k = trace_of(world, word) - a - d
                    self.assertEqual(rest, (1, -k, 1))

    def test_by_crossings(self):
        for world in [world for world in mixed_worlds() if len(world[0]) < 6][::3]:
            walks = class_walks(world)
            table = [[crossing(world, 0, one, 0, other) for other in walks] for one in walks]
            for word in ("", "cc", "a" * back_time(world, "a"), "bA" * back_time(world, "bA")):
                if len(word) < 7:
                    polynomial = return_polynomial(world, word)
                    names = undone(return_listing(world, word))
                    ends = [
                        [crossing(world, names[0], walk_behind(one, word), 0, other) for other in walks]
                        for one in walks
                    ]
                    for t in range(-2, 3):
                        rows = [
                            [t * a - b for a, b in zip(row, end)] for row, end in zip(table, ends)
                        ]
                        self.assertEqual(determinant(rows), value_at(polynomial, t))

    def test_leads_classes_to_classes(self):
        for world in fewer_worlds():
            for word in words_back(world)[1:3]:
                for corner in corners(world):
                    # Turning about a corner becomes turning about corners,
                    # which no round walk crosses.
                    about = count_of(world, corner[0], "ruld" * len(corner))
                    read = self.read_back(world, count_behind(world, about, word), word)
                    for walk in class_walks(world):
                        count = count_of(world, 0, walk)
                        self.assertEqual(self.crossed(world, read, count), 0)

    def read_back(self, world, count, word):
        n = len(world[0])
        names = return_listing(world, word)
        return [count[k] for k in names] + [count[n + k] for k in names]

    def crossed(self, world, one, other):
        right, up = world
        n = len(right)
        return sum(
            one[s] * other[n + up.index(s)] - one[n + s] * other[right.index(s)] for s in range(n)
        )

    def test_powers(self):
        for world in fewer_worlds() + [UNTURNED, LESSON]:
            if len(moves(world)) == 1:
                for word in words_back(world):
                    once = return_polynomial(world, word)
                    twice = return_polynomial(world, word * 2)
                    for t in range(-3, 4):
                        told = value_at(once, t) * value_at(once, -t)
                        self.assertEqual(value_at(twice, t * t), told)

    def test_more_moves(self):
        self.assertEqual(len(moves(TWO_MOVES)), 2)
        for word in words_back(TWO_MOVES):
            polynomial = return_polynomial(TWO_MOVES, word)
            self.assertEqual(polynomial, polynomial[::-1])

    def test_three_holes(self):
        self.assertEqual(return_polynomial(UNTURNED, ""), (1, -6, 15, -20, 15, -6, 1))
        self.assertEqual(rest_polynomial(UNTURNED, ""), (1, -4, 6, -4, 1))
        self.assertEqual(trace_of(UNTURNED, ""), 6)

    def test_errors(self):
        for call in (return_polynomial, rest_polynomial, trace_of):
            self.check_errors(call, True)


class TestClassesBehind(unittest.TestCase):
    def test_a_word_of_no_change(self):
        for world in fewer_worlds():
            for square, walk in round_walks(world, 3):
                told = class_of(world, square, walk)
                self.assertEqual(count_behind(world, told, "aAbBcC"), told)


if __name__ == "__main__":
    unittest.main()
