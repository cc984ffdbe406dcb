"""[25] to [27]: walks, lattices and flat worlds."""

import unittest
from math import gcd

from sample import LESSON, ONE_SQUARE, mixed, mixed_worlds
from squareworlds.corners import holes, kind
from squareworlds.covers import covered, maps
from squareworlds.deeds import done
from squareworlds.errors import NotWord
from squareworlds.lots import are_of_one_lot
from squareworlds.walks import flat, flats, go_back, is_tight, lattice, walked
from squareworlds.worlds import least_form, renamed

LETTERS = "ruld"
TRIPLES = [
    (a, b, d) for a in range(1, 9) for d in range(1, 9) if a * d <= 8 for b in range(a)
]


def is_in(told, x, y):
    """Whether a step is one of a lattice."""
    a, b, d = told
    return y % d == 0 and (x - y // d * b) % a == 0


class TestWalked(unittest.TestCase):
    def test_by_hand(self):
        self.assertEqual(walked(LESSON, 0, ""), 0)
        self.assertEqual(walked(LESSON, 0, "r"), 1)
        self.assertEqual(walked(LESSON, 0, "u"), 2)
        self.assertEqual(walked(LESSON, 0, "ru"), 1)
        self.assertEqual(walked(LESSON, 0, "ur"), 2)
        circle = ((1, 2, 0), (2, 0, 1))
        self.assertEqual([walked(circle, 0, letter) for letter in LETTERS], [1, 2, 2, 1])
        self.assertEqual(walked(circle, 1, "rrlud"), 2)

    def test_letter_by_letter(self):
        for world in mixed_worlds():
            right, up = world
            for square in range(len(right)):
                self.assertEqual(walked(world, square, "r"), right[square])
                self.assertEqual(walked(world, square, "u"), up[square])
                self.assertEqual(right[walked(world, square, "l")], square)
                self.assertEqual(up[walked(world, square, "d")], square)
                there = square
                for letter in "rruldurrd":
                    there = walked(world, there, letter)
                self.assertEqual(walked(world, square, "rruldurrd"), there)

    def test_four_hundred_letters(self):
        self.assertEqual(walked(((1, 2, 0), (0, 1, 2)), 0, "r" * 400), 1)

    def check_place(self, walk, place):
        with self.assertRaises(NotWord) as caught:
            walked(LESSON, 1, walk)
        self.assertEqual(caught.exception.place, place)
        with self.assertRaises(NotWord) as caught:
            go_back(LESSON, walk)
        self.assertEqual(caught.exception.place, place)

    def test_wrong_walks(self):
        for walk in (None, 0, True, b"ru", ("r",), ["r"], {"r": 1}):
            self.check_place(walk, -1)
        for sign in ("a", "R", "b", " ", "\n", "x"):
            self.check_place(sign, 0)
            self.check_place("ru" + sign + "r", 2)
            self.check_place("r" * 399 + sign, 399)
            self.check_place("r" * 400 + sign, 400)
        self.check_place("r" * 401, 400)
        self.check_place("ruld" * 200, 400)

    def test_go_back(self):
        self.assertEqual(go_back(LESSON, ""), (0, 1, 2))
        self.assertEqual(go_back(LESSON, "r"), (2,))
        self.assertEqual(go_back(LESSON, "u"), (1,))
        self.assertEqual(go_back(LESSON, "ruld"), ())
        self.assertEqual(go_back(LESSON, "rr"), (0, 1, 2))
        for world in mixed_worlds():
            for walk in ("r", "ruld", "rru", "ddl"):
                squares = range(len(world[0]))
                told = tuple(s for s in squares if walked(world, s, walk) == s)
                self.assertEqual(go_back(world, walk), told)


class TestLattice(unittest.TestCase):
    def test_by_hand(self):
        self.assertEqual(lattice(ONE_SQUARE), (1, 0, 1))
        self.assertEqual(lattice(LESSON), (1, 0, 1))
        self.assertEqual(lattice(((1, 2, 0), (0, 1, 2))), (3, 0, 1))
        self.assertEqual(lattice(((0, 1, 2), (1, 2, 0))), (1, 0, 3))
        # Above a square lies the one to its right, so up and left leads back.
        self.assertEqual(lattice(((1, 2, 0), (1, 2, 0))), (3, 2, 1))
        self.assertEqual(lattice(((1, 2, 0), (2, 0, 1))), (3, 1, 1))
        self.assertEqual(lattice(((1, 0, 3, 2), (2, 3, 0, 1))), (2, 0, 2))
        # Two holes over two squares beside one another.
        self.assertEqual(lattice(((1, 2, 3, 0), (0, 3, 2, 1))), (2, 0, 1))

    def test_steps_of_walks(self):
        for world in mixed_worlds():
            if len(world[0]) > 5:
                continue
            told = lattice(world)
            a, b, d = told
            self.assertTrue(a >= 1 and d >= 1 and 0 <= b < a)
            for x, y in self.steps_back(world):
                self.assertTrue(is_in(told, x, y))
            steps = self.steps_back(world)
            self.assertIn((a, 0), steps)
            self.assertIn((b, d), steps)

    def steps_back(self, world):
        """The steps of walks within some bound that lead back to square 0."""
        right, up = world
        met = {(0, 0, 0)}
        todo = [(0, 0, 0)]
        for s, x, y in todo:
            near = [(right[s], x + 1, y), (up[s], x, y + 1)]
            near += [(right.index(s), x - 1, y), (up.index(s), x, y - 1)]
            for t, p, q in near:
                if abs(p) <= 8 and abs(q) <= 8 and (t, p, q) not in met:
                    met.add((t, p, q))
                    todo.append((t, p, q))
        return {(x, y) for s, x, y in met if s == 0}

    def test_facts(self):
        for world in mixed_worlds():
            a, b, d = lattice(world)
            self.assertEqual(len(world[0]) % (a * d), 0)
            self.assertNotEqual(maps(world, flat(a, b, d)), ())
            self.assertIs(is_tight(world), a * d == 1)
            self.assertEqual(lattice(renamed(world, mixed(len(world[0]), 9))), (a, b, d))
            for word in ("a", "b", "c", "abAc"):
                e, _, f = lattice(done(world, word))
                self.assertEqual(e * f, a * d)

    def test_covered_worlds_with_one_hole(self):
        for world in mixed_worlds():
            told = lattice(world)
            within = [
                (a, b, d)
                for a, b, d in TRIPLES
                if is_in((a, b, d), told[0], 0) and is_in((a, b, d), told[1], told[2])
            ]
            flat_ones = {flat(a, b, d) for a, b, d in within}
            self.assertEqual({form for form in covered(world) if kind(form) == ()}, flat_ones)

    def test_is_tight(self):
        self.assertIs(is_tight(ONE_SQUARE), True)
        self.assertIs(is_tight(LESSON), True)
        self.assertIs(is_tight(((1, 0), (0, 1))), False)
        self.assertIs(is_tight(((0, 1), (1, 0))), False)


class TestFlats(unittest.TestCase):
    def test_by_hand(self):
        self.assertEqual(flat(1, 0, 1), ONE_SQUARE)
        self.assertEqual(flat(3, 0, 1), ((1, 2, 0), (0, 1, 2)))
        self.assertEqual(flat(3, 1, 1), ((1, 2, 0), (2, 0, 1)))
        self.assertEqual(flat(3, 2, 1), ((1, 2, 0), (1, 2, 0)))
        self.assertEqual(flat(1, 0, 3), ((0, 1, 2), (1, 2, 0)))
        self.assertEqual(flats(1), (ONE_SQUARE,))
        self.assertEqual(flats(2), (((0, 1), (1, 0)), ((1, 0), (0, 1)), ((1, 0), (1, 0))))

    def test_lattices(self):
        for a, b, d in TRIPLES:
            world = flat(a, b, d)
            self.assertEqual(len(world[0]), a * d)
            self.assertEqual(holes(world), 1)
            self.assertEqual(lattice(world), (a, b, d))
            self.assertEqual(least_form(world), world)

    def test_as_many_as_the_divisors_added(self):
        for n in range(1, 9):
            told = flats(n)
            self.assertEqual(len(told), sum(k for k in range(1, n + 1) if n % k == 0))
            self.assertEqual(list(told), sorted(set(told)))
            for world in told:
                self.assertEqual((len(world[0]), kind(world)), (n, ()))
                self.assertEqual(least_form(world), world)

    def test_lots_of_flat_worlds(self):
        for n in (4, 6, 8):
            for one in flats(n):
                for other in flats(n):
                    same = gcd(*lattice(one)) == gcd(*lattice(other))
                    self.assertIs(are_of_one_lot(one, other), same)


if __name__ == "__main__":
    unittest.main()
