"""[12], [13]: lots and ways."""

import unittest
from itertools import product

from sample import GREAT, LESSON, NEARLY_TOO_GREAT, ONE_SQUARE, TOO_GREAT, mixed, mixed_worlds
from squareworlds.corners import kind
from squareworlds.deeds import done
from squareworlds.errors import TooMany
from squareworlds.lots import are_of_one_lot, lengths_from, lot, lot_rows, way
from squareworlds.worlds import are_alike, least_form, renamed

# Two squares one above the other, beside one another, and both askew.
TALL = ((0, 1), (1, 0))
LONG = ((1, 0), (0, 1))
ASKEW = ((1, 0), (1, 0))

# Of seven squares and of the kind of GREAT, but with a lot of 32.
LITTLE = ((0, 1, 3, 2, 4, 6, 5), (1, 2, 0, 4, 5, 3, 6))


def small_worlds():
    return [world for world in mixed_worlds() if len(world[0]) < 6]


def first_way(one, other, most):
    """The first word of at most so many letters, by going through all."""
    for length in range(most + 1):
        for letters in product("ABab", repeat=length):
            if are_alike(done(one, "".join(letters)), other):
                return "".join(letters)
    return None


class TestByHand(unittest.TestCase):
    def test_one_square(self):
        self.assertEqual(lot(ONE_SQUARE), (ONE_SQUARE,))
        self.assertEqual(lot_rows(ONE_SQUARE), ((0,), (0,), (0,)))
        self.assertEqual(way(ONE_SQUARE, ONE_SQUARE), "")
        self.assertEqual(lengths_from(ONE_SQUARE), (1,))

    def test_two_squares(self):
        for world in (TALL, LONG, ASKEW):
            self.assertEqual(lot(world), (TALL, LONG, ASKEW))
            self.assertEqual(lot_rows(world), ((0, 2, 1), (2, 1, 0), (1, 0, 2)))
        self.assertEqual(way(TALL, LONG), "BA")
        self.assertEqual(way(LONG, TALL), "AB")
        self.assertEqual(way(TALL, ASKEW), "B")
        self.assertEqual(way(ASKEW, LONG), "A")
        self.assertEqual(lengths_from(TALL), (1, 1, 1))
        self.assertEqual(lengths_from(ASKEW), (1, 2))

    def test_three_squares(self):
        self.assertEqual(
            lot(LESSON),
            (((0, 2, 1), (1, 0, 2)), ((0, 2, 1), (1, 2, 0)), ((1, 2, 0), (0, 2, 1))),
        )
        self.assertEqual(lot_rows(LESSON), ((1, 0, 2), (2, 1, 0), (0, 2, 1)))


class TestLot(unittest.TestCase):
    def test_closed_and_joined(self):
        for world in small_worlds():
            forms = lot(world)
            self.assertEqual(list(forms), sorted(set(forms)))
            met = {least_form(world)}
            while True:
                more = met | {least_form(done(form, x)) for form in met for x in "abcABC"}
                if more == met:
                    break
                met = more
            self.assertEqual(set(forms), met)
            self.assertEqual({kind(form) for form in forms}, {kind(world)})

    def test_the_same_for_each_of_its_worlds(self):
        for world in small_worlds():
            forms = lot(world)
            for form in forms[::4]:
                self.assertEqual(lot(renamed(form, mixed(len(form[0]), 3))), forms)

    def test_rows(self):
        for world in small_worlds():
            forms = lot(world)
            for letter, row in zip("abc", lot_rows(world)):
                self.assertEqual(sorted(row), list(range(len(forms))))
                for index, form in enumerate(forms):
                    self.assertTrue(are_alike(done(form, letter), forms[row[index]]))

    def test_number_of_worlds(self):
        self.assertEqual(len(lot(NEARLY_TOO_GREAT)), 480)
        self.assertEqual(len(lot(LITTLE)), 32)


class TestOneLot(unittest.TestCase):
    def test_every_pair(self):
        worlds = small_worlds()[::3]
        for one in worlds:
            forms = lot(one)
            for other in worlds:
                self.assertIs(are_of_one_lot(one, other), least_form(other) in forms)
                self.assertEqual(way(one, other) is None, least_form(other) not in forms)

    def test_unlike_at_sight(self):
        for one, other in ((ONE_SQUARE, TALL), (LESSON, ((1, 2, 0), (0, 1, 2)))):
            self.assertIs(are_of_one_lot(one, other), False)
            self.assertIs(are_of_one_lot(other, one), False)
            self.assertIsNone(way(one, other))
            self.assertIsNone(way(other, one))

    def test_alike_kinds_of_unlike_lots(self):
        one = ((1, 0, 3, 2), (2, 3, 0, 1))
        other = ((1, 2, 3, 0), (0, 1, 2, 3))
        self.assertEqual(kind(one), kind(other))
        self.assertIs(are_of_one_lot(one, other), False)
        self.assertIsNone(way(one, other))


class TestWay(unittest.TestCase):
    def test_first_of_all_words(self):
        for world in (TALL, LONG, ASKEW, LESSON, ((1, 2, 3, 0), (0, 1, 2, 3))):
            for form in lot(world):
                self.assertEqual(way(world, form), first_way(world, form, 4))

    def test_first_by_sequence_of_strings(self):
        for world in small_worlds()[::5]:
            for form in lot(world):
                word = way(world, form)
                self.assertTrue(set(word) <= set("ABab"))
                self.assertTrue(are_alike(done(world, word), form))
                if len(word) < 4:
                    self.assertEqual(word, first_way(world, form, 3))

    def test_alike(self):
        for world in small_worlds():
            self.assertEqual(way(world, renamed(world, mixed(len(world[0]), 4))), "")

    def test_lengths(self):
        for world in small_worlds():
            ways = [len(way(world, form)) for form in lot(world)]
            lengths = lengths_from(world)
            self.assertEqual(sum(lengths), len(ways))
            self.assertEqual(lengths, tuple(ways.count(k) for k in range(max(ways) + 1)))
            self.assertGreater(lengths[-1], 0)
        self.assertEqual(sum(lengths_from(NEARLY_TOO_GREAT)), 480)


class TestTooMany(unittest.TestCase):
    def check_too_many(self, function, *values):
        with self.assertRaises(TooMany) as caught:
            function(*values)
        self.assertEqual(caught.exception.limit, 500)

    def test_each_function(self):
        for world in (GREAT, TOO_GREAT):
            self.check_too_many(lot, world)
            self.check_too_many(lot_rows, world)
            self.check_too_many(lengths_from, world)
            self.check_too_many(are_of_one_lot, world, world)
            self.check_too_many(way, world, world)
            self.check_too_many(way, world, done(world, "a"))

    def test_the_lot_of_the_one_counts(self):
        self.assertEqual(kind(GREAT), kind(LITTLE))
        self.check_too_many(are_of_one_lot, GREAT, LITTLE)
        self.check_too_many(way, GREAT, LITTLE)
        self.assertIs(are_of_one_lot(LITTLE, GREAT), False)
        self.assertIsNone(way(LITTLE, GREAT))

    def test_nothing_is_raised_for_unlike_worlds(self):
        long = ((1, 2, 3, 4, 5, 6, 0), (0, 1, 2, 3, 4, 5, 6))
        # Of the same kind, with one square less.
        less = ((0, 2, 1, 3, 5, 4), (1, 0, 3, 4, 5, 2))
        self.assertEqual(kind(less), kind(GREAT))
        for other in (ONE_SQUARE, LESSON, TOO_GREAT, long, less):
            self.assertIs(are_of_one_lot(GREAT, other), False)
            self.assertIs(are_of_one_lot(other, GREAT), False)
            self.assertIsNone(way(GREAT, other))
            self.assertIsNone(way(other, GREAT))


if __name__ == "__main__":
    unittest.main()
