"""[35] to [38], [77]: parts, characters, and how many worlds there are."""

import unittest
from collections import Counter
from fractions import Fraction
from functools import lru_cache
from math import factorial, gcd

from sample import hangs_together, listings
from squareworlds.corners import around
from squareworlds.covers import moves
from squareworlds.lists import worlds_of
from squareworlds.numbers import (
    all_parts,
    character,
    class_size,
    joined_count,
    pair_count,
    row_count,
    weight,
)


def turns_of(listing):
    """The numbers of entries in the rounds, by following each of them."""
    left = set(range(len(listing)))
    found = []
    while left:
        here = min(left)
        many = 0
        while here in left:
            left.remove(here)
            here = listing[here]
            many += 1
        found.append(many)
    return tuple(sorted(found, reverse=True))


def turned_about(shape):
    return tuple(sum(part > k for part in shape) for k in range(max(shape, default=0)))


@lru_cache(maxsize=None)
def character_by_places(shape, turns):
    """The character, by going through all places that can be taken out."""
    if not turns:
        return 1
    total = 0
    n = sum(shape)
    for left in all_parts(n - turns[0]):
        longer = left + (0,) * (len(shape) - len(left))
        if len(longer) == len(shape) and all(a <= b for a, b in zip(longer, shape)):
            places = {(row, k) for row, (a, b) in enumerate(zip(longer, shape)) for k in range(a, b)}
            if hang_by_sides(places) and not has_four_in_a_square(places):
                sign = (-1) ** (len({row for row, _ in places}) - 1)
                total += sign * character_by_places(left, turns[1:])
    return total


def hang_by_sides(places):
    met = {min(places)}
    while True:
        near = {(r + x, k + y) for r, k in met for x, y in ((0, 1), (1, 0), (0, -1), (-1, 0))}
        if met | (near & places) == met:
            return met == places
        met |= near & places


def has_four_in_a_square(places):
    return any({(r + 1, k), (r, k + 1), (r + 1, k + 1)} <= places for r, k in places)


@lru_cache(maxsize=None)
def counted(n):
    """How many pairs of listings of n numbers there are, by the turns of the
    first one and of around; and how many of them hang together."""
    pairs, joined = Counter(), Counter()
    for right in listings(n):
        rows = turns_of(right)
        for up in listings(n):
            turns = turns_of(around((right, up)))
            pairs[rows, turns] += 1
            if hangs_together((right, up)):
                joined[turns] += 1
    return pairs, joined


class TestParts(unittest.TestCase):
    def test_by_hand(self):
        self.assertEqual(all_parts(0), ((),))
        self.assertEqual(all_parts(1), ((1,),))
        self.assertEqual(all_parts(4), ((4,), (3, 1), (2, 2), (2, 1, 1), (1, 1, 1, 1)))

    def test_how_many(self):
        many = [len(all_parts(n)) for n in range(9)]
        self.assertEqual(many, [1, 1, 2, 3, 5, 7, 11, 15, 22])

    def test_all_of_them_descending(self):
        for n in range(9):
            told = all_parts(n)
            self.assertEqual(list(told), sorted(set(told), reverse=True))
            for parts in told:
                self.assertEqual(sum(parts), n)
                self.assertEqual(list(parts), sorted(parts, reverse=True))
                self.assertTrue(all(part >= 1 for part in parts))


class TestClassSize(unittest.TestCase):
    def test_by_hand(self):
        self.assertEqual(class_size(()), 1)
        self.assertEqual(class_size((1,)), 1)
        self.assertEqual([class_size(parts) for parts in all_parts(3)], [2, 3, 1])
        self.assertEqual([class_size(parts) for parts in all_parts(4)], [6, 8, 3, 6, 1])
        self.assertEqual(class_size((8,)), 5040)
        self.assertEqual(class_size((2, 2, 2, 2)), 105)
        self.assertEqual(class_size((3, 2, 2, 1)), 1680)
        self.assertEqual(class_size((1,) * 8), 1)

    def test_all_listings(self):
        for n in range(7):
            told = Counter(turns_of(listing) for listing in listings(n))
            for parts in all_parts(n):
                self.assertEqual(class_size(parts), told[parts])

    def test_added_up(self):
        for n in range(9):
            self.assertEqual(sum(map(class_size, all_parts(n))), factorial(n))


class TestCharacter(unittest.TestCase):
    def test_by_hand(self):
        self.assertEqual(character((), ()), 1)
        self.assertEqual(character((1,), (1,)), 1)
        tables = {
            2: ((1, 1), (-1, 1)),
            3: ((1, 1, 1), (-1, 0, 2), (1, -1, 1)),
            4: (
                (1, 1, 1, 1, 1),
                (-1, 0, -1, 1, 3),
                (0, -1, 2, 0, 2),
                (1, 0, -1, -1, 3),
                (-1, 1, 1, -1, 1),
            ),
        }
        for n, table in tables.items():
            for shape, row in zip(all_parts(n), table):
                self.assertEqual(tuple(character(shape, turns) for turns in all_parts(n)), row)

    def test_by_places(self):
        for n in range(7):
            for shape in all_parts(n):
                for turns in all_parts(n):
                    told = character(shape, turns)
                    self.assertEqual(told, character_by_places(shape, turns), (shape, turns))

    def test_eight_places(self):
        for shape in all_parts(8)[::3]:
            for turns in all_parts(8)[::2]:
                self.assertEqual(character(shape, turns), character_by_places(shape, turns))

    def test_single_squares(self):
        for n in range(9):
            ones = [character(shape, (1,) * n) for shape in all_parts(n)]
            self.assertGreaterEqual(min(ones), 1)
            self.assertEqual(sum(one * one for one in ones), factorial(n))

    def test_tables_at_right_angles(self):
        for n in range(7):
            for one in all_parts(n):
                for other in all_parts(n):
                    total = sum(
                        class_size(turns) * character(one, turns) * character(other, turns)
                        for turns in all_parts(n)
                    )
                    self.assertEqual(total, factorial(n) if one == other else 0)

    def test_turned_about(self):
        for n in range(9):
            for shape in all_parts(n):
                self.assertEqual(turned_about(turned_about(shape)), shape)
                for turns in all_parts(n):
                    sign = (-1) ** (n - len(turns))
                    told = character(turned_about(shape), turns)
                    self.assertEqual(told, sign * character(shape, turns))


class TestCounts(unittest.TestCase):
    def test_by_hand(self):
        self.assertEqual((pair_count((1,)), joined_count((1,)), weight((1,))), (1, 1, (1, 1)))
        # Two squares: all four pairs have two corners, one pair falls apart.
        self.assertEqual((pair_count((1, 1)), pair_count((2,))), (4, 0))
        self.assertEqual((joined_count((1, 1)), joined_count((2,))), (3, 0))
        self.assertEqual((weight((1, 1)), weight((2,))), ((3, 2), (0, 1)))
        # Three squares: around is a round of three, or leaves all.
        self.assertEqual([pair_count(turns) for turns in all_parts(3)], [18, 0, 18])
        self.assertEqual([joined_count(turns) for turns in all_parts(3)], [18, 0, 8])
        self.assertEqual([weight(turns) for turns in all_parts(3)], [(3, 1), (0, 1), (4, 3)])

    def test_all_pairs(self):
        for n in range(1, 6):
            pairs, joined = counted(n)
            for turns in all_parts(n):
                told = sum(pairs[rows, turns] for rows in all_parts(n))
                self.assertEqual(pair_count(turns), told)
                self.assertEqual(joined_count(turns), joined[turns])

    def test_added_up(self):
        for n in range(1, 9):
            total = sum(pair_count(turns) for turns in all_parts(n))
            self.assertEqual(total, factorial(n) ** 2)
        many = [sum(joined_count(turns) for turns in all_parts(n)) for n in range(1, 6)]
        self.assertEqual(many, [1, 3, 26, 426, 11064])

    def test_greater_worlds_hang_together(self):
        # The pairs in which square 0 hangs together with k squares in all.
        joined = {0: 0}
        for n in range(1, 9):
            apart = sum(
                factorial(n - 1) // factorial(n - k) // factorial(k - 1)
                * joined[k] * factorial(n - k) ** 2
                for k in range(1, n)
            )
            joined[n] = factorial(n) ** 2 - apart
            self.assertEqual(sum(joined_count(turns) for turns in all_parts(n)), joined[n])

    def test_weights(self):
        for n in range(1, 6):
            for turns in all_parts(n):
                a, b = weight(turns)
                self.assertEqual((gcd(a, b), b >= 1), (1, True))
                self.assertEqual(Fraction(a, b), Fraction(joined_count(turns), factorial(n)))
                by_moves = sum(Fraction(1, len(moves(form))) for form in worlds_of(turns))
                self.assertEqual(Fraction(a, b), by_moves)
        for turns in all_parts(8):
            a, b = weight(turns)
            self.assertEqual((gcd(a, b), a * factorial(8)), (1, b * joined_count(turns)))


class TestRowCount(unittest.TestCase):
    def test_by_hand(self):
        self.assertEqual(row_count((1,), (1,)), 1)
        self.assertEqual(row_count((2,), (1, 1)), 2)
        self.assertEqual(row_count((1, 1), (2,)), 0)
        # With three squares in a row: up is a turn of the row, or turns it round.
        self.assertEqual(row_count((3,), (1, 1, 1)), 6)
        self.assertEqual(row_count((3,), (3,)), 6)
        self.assertEqual(row_count((1, 1, 1), (1, 1, 1)), 6)

    def test_all_pairs(self):
        for n in range(1, 6):
            pairs, _ = counted(n)
            for rows in all_parts(n):
                for turns in all_parts(n):
                    self.assertEqual(row_count(rows, turns), pairs[rows, turns])

    def test_added_up(self):
        for n in range(1, 9):
            for turns in all_parts(n):
                total = sum(row_count(rows, turns) for rows in all_parts(n))
                self.assertEqual(total, pair_count(turns))
                self.assertLessEqual(row_count((n,), turns), joined_count(turns))

    def test_one_row_with_six_squares(self):
        right = (1, 2, 3, 4, 5, 0)
        told = Counter(turns_of(around((right, up))) for up in listings(6))
        for turns in all_parts(6):
            self.assertEqual(row_count((6,), turns), factorial(5) * told[turns])


if __name__ == "__main__":
    unittest.main()
