"""[1], [3], [4]: what worlds are, and which are alike."""

import unittest

from sample import ONE_SQUARE, all_worlds, hangs_together, listings, mixed, mixed_worlds
from squareworlds.errors import NotWorld
from squareworlds.listings import undone
from squareworlds.worlds import (
    are_alike,
    check_world,
    least_form,
    met_from,
    renamed,
    starts,
    world_breach,
)

CIRCLE = (1, 2, 0)
FORM = ("form", -1)

BREACHES = [
    # Values of other kinds.
    (None, FORM),
    (0, FORM),
    (True, FORM),
    ("", FORM),
    ("ab", FORM),
    (b"ab", FORM),
    ({}, FORM),
    ({0, 1}, FORM),
    ((), FORM),
    ([(0,), (0,)], FORM),
    (((0,),), FORM),
    (((0,), (0,), (0,)), FORM),
    (([0], (0,)), FORM),
    (((0,), [0]), FORM),
    (((0,), None), FORM),
    (("0", "0"), FORM),
    ((0, 0), FORM),
    ((range(1), range(1)), FORM),
    # None, nine, and unlike numbers of squares.
    (((), ()), FORM),
    (((0,), ()), FORM),
    (((0,), (0, 1)), FORM),
    ((tuple(range(9)), (1, 2, 3, 4, 5, 6, 7, 8, 0)), FORM),
    # Right.
    (((1,), (0,)), ("right", 0)),
    (((-1,), (0,)), ("right", 0)),
    (((False,), (0,)), ("right", 0)),
    (((0, True), (1, 0)), ("right", 1)),
    (((0.0, 1), (1, 0)), ("right", 0)),
    ((("0", 1), (1, 0)), ("right", 0)),
    (((None, 1), (1, 0)), ("right", 0)),
    (((0, [1]), (1, 0)), ("right", 1)),
    (((0, (1,)), (1, 0)), ("right", 1)),
    (((0, 1, 1), CIRCLE), ("right", 2)),
    (((0, 0, 3), CIRCLE), ("right", 1)),
    (((0, 1, 3), CIRCLE), ("right", 2)),
    (((2, 1, -3), CIRCLE), ("right", 2)),
    (((0, 1, 10 ** 30), CIRCLE), ("right", 2)),
    # Up.
    (((0,), (1,)), ("up", 0)),
    (((0,), (False,)), ("up", 0)),
    (((1, 0), (0, True)), ("up", 1)),
    (((1, 0), (0, 1.0)), ("up", 1)),
    ((CIRCLE, (2, 2, 0)), ("up", 1)),
    ((CIRCLE, (2, 0, 3)), ("up", 2)),
    ((CIRCLE, (2, -1, 0)), ("up", 1)),
    # Apart.
    (((0, 1), (0, 1)), ("apart", 1)),
    (((2, 1, 0), (2, 1, 0)), ("apart", 1)),
    (((1, 0, 2), (1, 0, 2)), ("apart", 2)),
    (((0, 2, 3, 1), (0, 1, 3, 2)), ("apart", 1)),
    (((1, 0, 2, 3, 5, 4, 7, 6), (3, 1, 2, 0, 4, 6, 5, 7)), ("apart", 2)),
    # Several at once: the first rule is told.
    (((1, 1, 1), [0, 1, 2]), FORM),
    (((5, 5, 5), (5, 5)), FORM),
    (((0, 0, 2), (0, 0, 2)), ("right", 1)),
    (((0, 2, 2), (0, 1, 2)), ("right", 2)),
    (((0, 1, 2), (0, 1, 1)), ("up", 2)),
    (((0, 1, True), (True, 1, 2)), ("right", 2)),
]


class TestWorldBreach(unittest.TestCase):
    def test_worlds_break_no_rule(self):
        for world in mixed_worlds():
            self.assertIsNone(world_breach(world))
            self.assertEqual(check_world(world), world)
        for n in range(1, 9):
            circle = tuple(range(1, n)) + (0,)
            self.assertIsNone(world_breach((circle, tuple(range(n)))))
            self.assertIsNone(world_breach((tuple(range(n)), circle)))

    def test_what_is_returned_is_the_value(self):
        self.assertIs(check_world(ONE_SQUARE), ONE_SQUARE)

    def test_broken_rules(self):
        for value, breach in BREACHES:
            with self.subTest(value=value):
                self.assertEqual(world_breach(value), breach)
                with self.assertRaises(NotWorld) as caught:
                    check_world(value)
                self.assertEqual((caught.exception.rule, caught.exception.place), breach)

    def test_apart_over_all_pairs_of_three(self):
        for right in listings(3):
            for up in listings(3):
                breach = world_breach((right, up))
                self.assertEqual(breach is None, hangs_together((right, up)))


class TestRenamed(unittest.TestCase):
    def test_by_hand(self):
        self.assertEqual(renamed(((1, 0, 2), (2, 1, 0)), (2, 0, 1)), ((0, 2, 1), (1, 0, 2)))
        self.assertEqual(renamed(((1, 2, 0), (0, 1, 2)), (0, 2, 1)), ((2, 0, 1), (0, 1, 2)))
        self.assertEqual(renamed(ONE_SQUARE, (0,)), ONE_SQUARE)

    def test_square_k_is_the_square_told(self):
        for world in mixed_worlds():
            n = len(world[0])
            listing = mixed(n, 5)
            new = renamed(world, listing)
            for k in range(n):
                self.assertEqual(listing[new[0][k]], world[0][listing[k]])
                self.assertEqual(listing[new[1][k]], world[1][listing[k]])

    def test_twice_and_back(self):
        for world in mixed_worlds():
            n = len(world[0])
            first, second = mixed(n, 11), mixed(n, 12)
            both = tuple(first[k] for k in second)
            self.assertEqual(renamed(renamed(world, first), second), renamed(world, both))
            self.assertEqual(renamed(renamed(world, first), undone(first)), world)
            self.assertEqual(renamed(world, tuple(range(n))), world)


class TestMetFrom(unittest.TestCase):
    def test_by_hand(self):
        world = ((1, 0, 2), (2, 1, 0))
        self.assertEqual(met_from(world, 0), (0, 1, 2))
        self.assertEqual(met_from(world, 1), (1, 0, 2))
        self.assertEqual(met_from(world, 2), (2, 0, 1))
        self.assertEqual(met_from(((3, 0, 1, 2), (2, 3, 0, 1)), 0), (0, 3, 2, 1))
        self.assertEqual(met_from(ONE_SQUARE, 0), (0,))

    def test_each_square_is_the_next_new_one(self):
        for world in mixed_worlds():
            for start in range(len(world[0])):
                met = met_from(world, start)
                self.assertEqual(sorted(met), list(range(len(world[0]))))
                steps = [start]
                for square in met:
                    steps += [world[0][square], world[1][square]]
                self.assertEqual(met, tuple(dict.fromkeys(steps)))


class TestLeastForm(unittest.TestCase):
    def test_by_hand(self):
        self.assertEqual(least_form(((1, 2, 0), (0, 1, 2))), ((1, 2, 0), (0, 1, 2)))
        self.assertEqual(least_form(((2, 0, 1), (0, 1, 2))), ((1, 2, 0), (0, 1, 2)))
        self.assertEqual(starts(((2, 0, 1), (0, 1, 2))), (0, 1, 2))
        self.assertEqual(least_form(((1, 0, 2), (2, 1, 0))), ((0, 2, 1), (1, 0, 2)))
        self.assertEqual(starts(((1, 0, 2), (2, 1, 0))), (2,))

    def test_least_of_the_forms_from_each_square(self):
        for world in mixed_worlds():
            squares = range(len(world[0]))
            forms = [renamed(world, met_from(world, s)) for s in squares]
            self.assertEqual(least_form(world), min(forms))
            told = tuple(s for s in squares if forms[s] == min(forms))
            self.assertEqual(starts(world), told)

    def test_along_renaming(self):
        for world in mixed_worlds():
            n = len(world[0])
            for seed in (21, 22, 23):
                listing = mixed(n, seed)
                new = renamed(world, listing)
                self.assertEqual(least_form(new), least_form(world))
                self.assertTrue(are_alike(world, new))
                old = tuple(sorted(listing[k] for k in starts(new)))
                self.assertEqual(old, starts(world))

    def test_alike_exactly_if_renaming_leads_there(self):
        worlds = all_worlds(3)
        for one in worlds:
            renamings = {renamed(one, listing) for listing in listings(3)}
            for other in worlds:
                self.assertIs(are_alike(one, other), other in renamings)

    def test_unlike_numbers_of_squares(self):
        self.assertIs(are_alike(ONE_SQUARE, ((0, 1), (1, 0))), False)
        self.assertIs(are_alike(((0, 1), (1, 0)), ONE_SQUARE), False)

    def test_as_many_least_forms_as_are_known(self):
        for n, many in ((1, 1), (2, 3), (3, 7), (4, 26)):
            forms = {least_form(world) for world in all_worlds(n)}
            self.assertEqual(len(forms), many)


if __name__ == "__main__":
    unittest.main()
