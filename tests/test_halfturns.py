"""[28] to [31]: half turns, what they leave where it is, twofold worlds."""

import unittest

from sample import (
    GREAT,
    GREATER_WORLDS,
    LESSON,
    ONE_SQUARE,
    TWOFOLD,
    WITH_OTHER_HALF_TURNS,
    WITHOUT_HALF_TURNS,
    all_worlds,
    listings,
    mixed,
    mixed_worlds,
)
from squareworlds.corners import corner_at, corners, holes, kind
from squareworlds.covers import moves
from squareworlds.deeds import done
from squareworlds.errors import NotHalfTurn, NotKind
from squareworlds.halfturns import half_turns, is_twofold, stays, whole_stays
from squareworlds.listings import chained, undone
from squareworlds.lists import all_lots, worlds
from squareworlds.lots import lot
from squareworlds.walks import is_tight
from squareworlds.worlds import are_alike, renamed

TALL = ((0, 1), (1, 0))
LONG = ((1, 0), (0, 1))
ASKEW = ((1, 0), (1, 0))
CIRCLE = ((1, 2, 0), (0, 1, 2))

# Tight worlds of the kind (3,): the world, how many worlds its lot has, and
# how many corners the half turn leaves.
TIGHT = [
    (((0, 2, 1), (1, 0, 2)), 3, 1),
    (((0, 1, 3, 2), (1, 2, 0, 3)), 9, 2),
    (((0, 1, 2, 4, 3), (1, 2, 3, 0, 4)), 18, 1),
    (((0, 1, 3, 4, 2), (1, 2, 0, 3, 4)), 9, 3),
    (((0, 1, 2, 3, 5, 4), (1, 2, 3, 4, 0, 5)), 36, 2),
    (((0, 1, 2, 3, 4, 6, 5), (1, 2, 3, 4, 5, 0, 6)), 54, 1),
    (((0, 1, 2, 3, 5, 6, 4), (1, 2, 3, 4, 0, 5, 6)), 36, 3),
    (((0, 1, 2, 3, 4, 5, 7, 6), (1, 2, 3, 4, 5, 6, 0, 7)), 108, 2),
]


def is_half_turn(world, h):
    right, up = world
    left, down = undone(right), undone(up)
    squares = range(len(right))
    return all(h[right[s]] == left[h[s]] and h[up[s]] == down[h[s]] for s in squares)


def makes_twofold(world, h):
    once_more = tuple(h[entry] for entry in h)
    many = sum(len(told) for told in stays(world, h))
    return once_more == tuple(range(len(h))) and many == 2 * holes(world) + 2


class TestHalfTurns(unittest.TestCase):
    def test_by_hand(self):
        self.assertEqual(half_turns(ONE_SQUARE), ((0,),))
        for world in (TALL, LONG, ASKEW):
            self.assertEqual(half_turns(world), ((0, 1), (1, 0)))
        self.assertEqual(half_turns(LESSON), ((0, 1, 2),))
        self.assertEqual(half_turns(CIRCLE), ((0, 2, 1), (1, 0, 2), (2, 1, 0)))
        for world in WITHOUT_HALF_TURNS.values():
            self.assertEqual(half_turns(world), ())

    def test_all_listings(self):
        small = [world for world in mixed_worlds() if len(world[0]) < 7]
        for world in small + all_worlds(4)[::4]:
            found = [h for h in listings(len(world[0])) if is_half_turn(world, h)]
            self.assertEqual(half_turns(world), tuple(sorted(found)))

    def test_facts(self):
        for world in mixed_worlds() + GREATER_WORLDS:
            told = half_turns(world)
            self.assertEqual(list(told), sorted(set(told)))
            self.assertIn(len(told), (0, len(moves(world))))
            self.assertIs(told != (), are_alike(world, done(world, "cc")))
            for one in told:
                self.assertTrue(is_half_turn(world, one))
                for other in told:
                    self.assertIn(chained(one, other), moves(world))


class TestStays(unittest.TestCase):
    def test_one_square(self):
        self.assertEqual(stays(ONE_SQUARE, (0,)), ((0,), (0,), (0,), (0,)))

    def test_two_squares(self):
        self.assertEqual(stays(TALL, (0, 1)), ((0, 1), (0, 1), (), ()))
        self.assertEqual(stays(TALL, (1, 0)), ((), (), (0, 1), (0, 1)))
        self.assertEqual(stays(LONG, (0, 1)), ((0, 1), (), (0, 1), ()))
        self.assertEqual(stays(LONG, (1, 0)), ((), (0, 1), (), (0, 1)))
        self.assertEqual(stays(ASKEW, (0, 1)), ((0, 1), (), (), (0, 1)))
        self.assertEqual(stays(ASKEW, (1, 0)), ((), (0, 1), (0, 1), ()))

    def test_three_squares(self):
        self.assertEqual(stays(LESSON, (0, 1, 2)), ((0, 1, 2), (2,), (1,), (0,)))
        self.assertEqual(stays(CIRCLE, (0, 2, 1)), ((0,), (1,), (0,), (1,)))
        self.assertEqual(stays(CIRCLE, (1, 0, 2)), ((2,), (0,), (2,), (0,)))
        self.assertEqual(stays(CIRCLE, (2, 1, 0)), ((1,), (2,), (1,), (2,)))

    def test_each_part(self):
        for world in mixed_worlds() + GREATER_WORLDS:
            right, up = world
            left, down = undone(right), undone(up)
            squares = range(len(right))
            for h in half_turns(world):
                middles, right_sides, upper_sides, kept = stays(world, h)
                self.assertEqual(middles, tuple(s for s in squares if h[s] == s))
                self.assertEqual(right_sides, tuple(s for s in squares if h[s] == right[s]))
                self.assertEqual(upper_sides, tuple(s for s in squares if h[s] == up[s]))
                for index, corner in enumerate(corners(world)):
                    # It does not depend on the square by which one asks.
                    ends = {corner_at(world, left[down[h[s]]]) == index for s in corner}
                    self.assertEqual(ends, {index in kept})
                self.assertEqual(list(kept), sorted(set(kept)))

    def test_no_half_turn(self):
        wrong = [
            None, True, 0, 1.5, "", "012", b"012", {}, {0: 0, 1: 1, 2: 2}, {0, 1, 2}, LESSON,
            [0, 1, 2], (), (0,), (0, 1), (0, 1, 2, 0), (0, 1, 2, 3), ((0, 1, 2),),
            (0, 2, 1), (1, 0, 2), (2, 0, 1), (1, 2, 0), (2, 1, 0),
            (False, 1, 2), (0, True, 2), (0.0, 1, 2), (0, 1, 2.0), (0, "1", 2),
            (None, 1, 2), (0, (1,), 2), (0, [1], 2), (0, 1, {}),
            (0, 1, 3), (0, 1, -1), (-3, -2, -1), (0, 1, 10 ** 30), (0, 0, 0), (0, 1, 1),
        ]
        for value in wrong:
            with self.subTest(value=value), self.assertRaises(NotHalfTurn):
                stays(LESSON, value)
        for value in ((False,), (1,), (0, 0), 0, (), [0], (True,), ((0,),)):
            with self.subTest(value=value), self.assertRaises(NotHalfTurn):
                stays(ONE_SQUARE, value)

    def test_listings_that_are_none(self):
        for world in [world for world in mixed_worlds() if len(world[0]) in (3, 4)]:
            for listing in listings(len(world[0])):
                if not is_half_turn(world, listing):
                    with self.assertRaises(NotHalfTurn):
                        stays(world, listing)


class TestTwofold(unittest.TestCase):
    def test_one_and_two_holes(self):
        met = set()
        for world in mixed_worlds():
            if holes(world) <= 2:
                met.add(kind(world))
                self.assertIs(is_twofold(world), True)
                told = [h for h in half_turns(world) if makes_twofold(world, h)]
                if holes(world) == 2:
                    self.assertEqual(len(told), 1)
        self.assertEqual(met, {(), (3,), (2, 2)})

    def test_more_holes(self):
        for table, told in ((TWOFOLD, True), (WITH_OTHER_HALF_TURNS, False)):
            for turns, world in table.items():
                with self.subTest(world):
                    self.assertEqual(kind(world), turns)
                    self.assertNotEqual(half_turns(world), ())
                    self.assertIs(is_twofold(world), told)
        for turns, world in WITHOUT_HALF_TURNS.items():
            self.assertEqual(kind(world), turns)
            self.assertIs(is_twofold(world), False)

    def test_as_told(self):
        for world in mixed_worlds() + GREATER_WORLDS:
            told = any(makes_twofold(world, h) for h in half_turns(world))
            self.assertIs(is_twofold(world), told)
            self.assertIs(is_twofold(renamed(world, mixed(len(world[0]), 5))), told)

    def test_lots_are_twofold_alike(self):
        for n in (1, 2, 3, 4, 5):
            for forms in all_lots(n):
                self.assertEqual(len({is_twofold(form) for form in forms}), 1)
        for world in GREATER_WORLDS:
            for word in ("a", "b", "c", "aabAc"):
                self.assertIs(is_twofold(done(world, word)), is_twofold(world))


class TestWholeStays(unittest.TestCase):
    def test_tight_worlds(self):
        for world, many, kept in TIGHT:
            with self.subTest(world):
                self.assertEqual((kind(world), is_tight(world)), ((3,), True))
                forms = lot(world)
                self.assertEqual(len(forms), many)
                self.assertEqual({whole_stays(form) for form in forms}, {kept})

    def test_numbers_of_worlds(self):
        factors = {3: 8, 4: 12, 5: 24, 6: 24, 7: 48, 8: 48}
        for world, many, kept in TIGHT:
            n = len(world[0])
            k = factors[n]
            self.assertEqual(k, n * n - sum(self.of_order(n, m) for m in range(1, n) if n % m == 0))
            if n == 3 or kept == 1:
                self.assertEqual(many * 16, 3 * (n - 1) * k)
            elif n % 2 == 1:
                self.assertEqual((many * 16, kept), (3 * (n - 3) * k, 3))
            else:
                self.assertEqual((many * 8, kept), (3 * (n - 2) * k, 2))

    def of_order(self, n, m):
        """How many pairs modulo n have just the order m, m dividing n."""
        below = [d for d in range(1, m) if m % d == 0]
        return m * m - sum(self.of_order(n, d) for d in below)

    def test_no_other_lots(self):
        for n in (3, 4, 5):
            told = [len(forms) for forms in all_lots(n) if self.is_told(forms[0])]
            self.assertEqual(
                sorted(told), sorted(many for world, many, _ in TIGHT if len(world[0]) == n)
            )
        self.assertEqual(len([form for form in worlds(6) if self.is_told(form)]), 36)

    def is_told(self, world):
        return kind(world) == (3,) and is_tight(world)

    def test_as_stays(self):
        for world in mixed_worlds():
            if kind(world) == (3,):
                turns = [h for h in half_turns(world) if makes_twofold(world, h)]
                self.assertEqual(whole_stays(world), len(stays(world, turns[0])[3]))
                self.assertGreaterEqual(whole_stays(world), 1)

    def test_no_tight_worlds(self):
        # The lesson's world, each square parted into a left one and a right one.
        world = ((1, 2, 3, 0, 5, 4), (4, 5, 2, 3, 0, 1))
        self.assertEqual((kind(world), is_tight(world)), ((3,), False))
        self.assertEqual({whole_stays(form) for form in lot(world)}, {whole_stays(world)})

    def test_other_kinds(self):
        others = [ONE_SQUARE, LONG, CIRCLE, ((0, 2, 1, 3), (1, 0, 3, 2)), GREAT, *GREATER_WORLDS]
        met = set()
        for world in others:
            met.add(kind(world))
            with self.subTest(world), self.assertRaises(NotKind):
                whole_stays(world)
        self.assertEqual(
            met,
            {(), (2, 2), (5,), (3, 3), (4, 2), (3, 2, 2), (2, 2, 2, 2), (7,), (6, 2), (5, 3), (4, 4)}
            | {kind(GREAT)},
        )


if __name__ == "__main__":
    unittest.main()
