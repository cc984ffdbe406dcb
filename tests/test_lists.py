"""[39], [64]: lists of all worlds of a few squares, lots and kinds."""

import unittest

from sample import LESSON, all_worlds, some_worlds
from squareworlds.corners import corners, kind
from squareworlds.lists import all_lots, kinds, worlds, worlds_of
from squareworlds.lots import lot
from squareworlds.numbers import all_parts, joined_count
from squareworlds.worlds import least_form, world_breach


class TestWorlds(unittest.TestCase):
    def test_by_hand(self):
        self.assertEqual(worlds(1), (((0,), (0,)),))
        self.assertEqual(worlds(2), (((0, 1), (1, 0)), ((1, 0), (0, 1)), ((1, 0), (1, 0))))
        self.assertIn(least_form(LESSON), worlds(3))

    def test_how_many(self):
        self.assertEqual([len(worlds(n)) for n in range(1, 6)], [1, 3, 7, 26, 97])

    def test_all_of_them_ascending(self):
        for n in range(1, 5):
            self.assertEqual(worlds(n), tuple(sorted({least_form(w) for w in all_worlds(n)})))
        told = worlds(5)
        self.assertEqual(list(told), sorted(set(told)))
        for form in told:
            self.assertIsNone(world_breach(form))
            self.assertEqual(least_form(form), form)
        for world in some_worlds(5, 200):
            self.assertIn(least_form(world), told)


class TestWorldsOf(unittest.TestCase):
    def test_by_hand(self):
        self.assertEqual(worlds_of((1,)), worlds(1))
        self.assertEqual(worlds_of((1, 1)), worlds(2))
        self.assertEqual(worlds_of((2,)), ())
        self.assertEqual(worlds_of((3,)), lot(LESSON))
        self.assertEqual(worlds_of((2, 1)), ())
        self.assertEqual(len(worlds_of((1, 1, 1))), 4)

    def test_put_together(self):
        for n in range(1, 6):
            put = [form for turns in all_parts(n) for form in worlds_of(turns)]
            self.assertEqual(tuple(sorted(put)), worlds(n))

    def test_turns(self):
        for n in range(1, 6):
            for turns in all_parts(n):
                told = worlds_of(turns)
                self.assertEqual(list(told), sorted(set(told)))
                for form in told:
                    self.assertEqual(sorted(map(len, corners(form))), sorted(turns))


class TestLots(unittest.TestCase):
    def test_by_hand(self):
        self.assertEqual(all_lots(1), (worlds(1),))
        self.assertEqual(all_lots(2), (worlds(2),))
        self.assertEqual(all_lots(3), (worlds_of((1, 1, 1)), worlds_of((3,))))
        self.assertEqual(len(all_lots(4)), 5)
        self.assertEqual(sorted(map(len, all_lots(5))), [3, 6, 9, 10, 12, 15, 18, 24])

    def test_each_world_is_in_one(self):
        for n in range(1, 6):
            told = all_lots(n)
            self.assertEqual(list(told), sorted(set(told)))
            put = [form for forms in told for form in forms]
            self.assertEqual(tuple(sorted(put)), worlds(n))
            for forms in told:
                for form in forms[::3]:
                    self.assertEqual(lot(form), forms)


class TestKinds(unittest.TestCase):
    def test_by_hand(self):
        self.assertEqual(kinds(1), ((),))
        self.assertEqual(kinds(2), ((),))
        self.assertEqual(kinds(3), ((3,), ()))
        self.assertEqual(kinds(4), ((3,), (2, 2), ()))
        self.assertEqual(kinds(5), ((5,), (3,), (2, 2), ()))
        self.assertEqual(kinds(6), ((5,), (4, 2), (3, 3), (3,), (2, 2), ()))

    def test_kinds_of_all_worlds(self):
        for n in range(1, 6):
            told = {kind(form) for form in worlds(n)}
            self.assertEqual(kinds(n), tuple(sorted(told, reverse=True)))

    def test_kinds_of_some_worlds(self):
        for n in (6, 7, 8):
            told = {kind(world) for world in some_worlds(n, 150)}
            self.assertLessEqual(told, set(kinds(n)))

    def test_as_many_as_there_are(self):
        for n in range(1, 9):
            told = kinds(n)
            self.assertEqual(list(told), sorted(set(told), reverse=True))
            for turns in told:
                self.assertGreater(joined_count(turns + (1,) * (n - sum(turns))), 0)
            met = [turns for turns in all_parts(n) if joined_count(turns) > 0]
            self.assertEqual(len(told), len(met))


if __name__ == "__main__":
    unittest.main()
