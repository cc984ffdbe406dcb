"""[21] to [24]: maps, moves, block sets, covers."""

import unittest
from itertools import product

from sample import LESSON, NO_BLOCKS_OF_ROW, ONE_SQUARE, ROW, all_worlds, mixed_worlds
from squareworlds.covers import (
    block_sets,
    covered,
    is_prime,
    maps,
    moves,
    over_both,
    under,
)
from squareworlds.deeds import done
from squareworlds.errors import NotBlocks, TooMany
from squareworlds.lots import lot
from squareworlds.worlds import are_alike, check_world, least_form, renamed, starts

TALL = ((0, 1), (1, 0))
LONG = ((1, 0), (0, 1))
# Two rows of two squares.
FIELD = ((1, 0, 3, 2), (2, 3, 0, 1))
CIRCLE = ((1, 2, 3, 4, 5, 0), (0, 1, 2, 3, 4, 5))
MANY_BLOCKS = ((1, 0, 4, 5, 2, 3, 7, 6), (2, 3, 0, 1, 6, 7, 4, 5))


def all_maps(one, other):
    """All maps, by going through all functions from squares to squares."""
    n = len(one[0])
    return tuple(
        f
        for f in product(range(len(other[0])), repeat=n)
        if all(f[step[s]] == far[f[s]] for step, far in zip(one, other) for s in range(n))
    )


def partings(squares):
    """All ways to part squares into blocks."""
    if not squares:
        yield ()
        return
    first, rest = squares[0], squares[1:]
    for parting in partings(rest):
        yield ((first,),) + parting
        for k, block in enumerate(parting):
            yield parting[:k] + ((first,) + block,) + parting[k + 1:]


def all_block_sets(world):
    found = []
    for parting in partings(tuple(range(len(world[0])))):
        home = {s: k for k, block in enumerate(parting) for s in block}
        if all(len({home[step[s]] for s in block}) == 1 for step in world for block in parting):
            found.append(tuple(sorted(tuple(sorted(block)) for block in parting)))
    return tuple(sorted(found))


class TestMaps(unittest.TestCase):
    def test_by_hand(self):
        self.assertEqual(maps(LESSON, ONE_SQUARE), ((0, 0, 0),))
        self.assertEqual(maps(ONE_SQUARE, LESSON), ())
        self.assertEqual(maps(ROW, LONG), ((0, 1, 0, 1), (1, 0, 1, 0)))
        self.assertEqual(maps(ROW, TALL), ())
        self.assertEqual(maps(CIRCLE, ((1, 2, 0), (0, 1, 2)))[1], (1, 2, 0, 1, 2, 0))
        self.assertEqual(maps(ROW, ((1, 2, 0), (0, 1, 2))), ())
        self.assertEqual(moves(LESSON), ((0, 1, 2),))
        self.assertEqual(moves(TALL), ((0, 1), (1, 0)))
        self.assertEqual(len(moves(FIELD)), 4)

    def test_all_functions(self):
        worlds = [world for world in mixed_worlds() if len(world[0]) < 5]
        for one in worlds[::3]:
            for other in worlds[::2]:
                self.assertEqual(maps(one, other), all_maps(one, other))

    def test_facts(self):
        for one in (ROW, FIELD, CIRCLE, LESSON):
            for other in (ONE_SQUARE, TALL, LONG, ROW, ((1, 2, 0), (0, 1, 2))):
                told = maps(one, other)
                self.assertEqual(list(told), sorted(set(told)))
                for f in told:
                    counts = {f.count(t) for t in range(len(other[0]))}
                    self.assertEqual(len(counts), 1)
                for word in ("a", "b", "c", "aBc"):
                    self.assertEqual(maps(done(one, word), done(other, word)), told)

    def test_moves(self):
        for world in mixed_worlds():
            told = moves(world)
            self.assertEqual(told[0], tuple(range(len(world[0]))))
            self.assertEqual(len(told), len(starts(world)))
            self.assertEqual(len(world[0]) % len(told), 0)
            for f in told:
                self.assertEqual(renamed(world, f), world)


class TestBlockSets(unittest.TestCase):
    def test_by_hand(self):
        self.assertEqual(block_sets(ONE_SQUARE), (((0,),),))
        self.assertEqual(block_sets(LESSON), (((0,), (1,), (2,)), ((0, 1, 2),)))
        self.assertEqual(
            block_sets(ROW),
            (((0,), (1,), (2,), (3,)), ((0, 1, 2, 3),), ((0, 2), (1, 3))),
        )
        self.assertEqual(len(block_sets(FIELD)), 5)
        self.assertEqual(len(block_sets(CIRCLE)), 4)

    def test_all_partings(self):
        for world in mixed_worlds() + all_worlds(4)[::5]:
            if len(world[0]) < 8:
                self.assertEqual(block_sets(world), all_block_sets(world))

    def test_eight_squares(self):
        row = ((1, 2, 3, 4, 5, 6, 7, 0), (2, 3, 4, 5, 6, 7, 0, 1))
        for world, many in ((MANY_BLOCKS, 10), (row, 4)):
            self.assertEqual(block_sets(check_world(world)), all_block_sets(world))
            self.assertEqual(len(block_sets(world)), many)

    def test_leaning_leaves_them(self):
        for world in mixed_worlds():
            told = block_sets(world)
            for word in ("a", "b", "c", "cAb"):
                self.assertEqual(block_sets(done(world, word)), told)


class TestUnder(unittest.TestCase):
    def test_by_hand(self):
        self.assertEqual(under(ROW, ((0, 2), (1, 3))), LONG)
        self.assertEqual(under(ROW, ((0, 1, 2, 3),)), ONE_SQUARE)
        self.assertEqual(under(FIELD, ((0, 1), (2, 3))), TALL)
        self.assertEqual(under(FIELD, ((0, 3), (1, 2))), ((1, 0), (1, 0)))
        self.assertEqual(under(CIRCLE, ((0, 2, 4), (1, 3, 5))), LONG)
        self.assertEqual(under(CIRCLE, ((0, 3), (1, 4), (2, 5))), ((1, 2, 0), (0, 1, 2)))

    def test_blocks_are_the_squares(self):
        for world in mixed_worlds():
            for blocks in block_sets(world):
                below = under(world, blocks)
                check_world(below)
                home = {s: k for k, block in enumerate(blocks) for s in block}
                f = tuple(home[s] for s in range(len(world[0])))
                self.assertIn(f, maps(world, below))

    def test_no_block_set(self):
        for value in NO_BLOCKS_OF_ROW:
            with self.subTest(value=value):
                with self.assertRaises(NotBlocks):
                    under(ROW, value)
        for value in (((False,),), ((0, 0),), ((0,), ()), (0,), ((0.0,),)):
            with self.assertRaises(NotBlocks):
                under(ONE_SQUARE, value)


class TestCovered(unittest.TestCase):
    def test_by_hand(self):
        self.assertEqual(covered(ONE_SQUARE), (ONE_SQUARE,))
        self.assertEqual(covered(LESSON), (ONE_SQUARE, least_form(LESSON)))
        self.assertEqual(covered(ROW), (ONE_SQUARE, LONG, ROW))
        self.assertEqual(
            covered(FIELD), (ONE_SQUARE, TALL, LONG, ((1, 0), (1, 0)), least_form(FIELD))
        )

    def test_least_forms_of_all_maps(self):
        smaller = [form for n in (1, 2, 3, 4) for form in {least_form(w) for w in all_worlds(n)}]
        for world in mixed_worlds():
            told = covered(world)
            self.assertEqual(list(told), sorted(set(told)))
            self.assertEqual(set(told), {least_form(under(world, b)) for b in block_sets(world)})
            if len(world[0]) < 5:
                by_maps = [form for form in smaller if maps(world, form)]
                self.assertEqual(told, tuple(sorted(by_maps)))

    def test_alike_ones_are_told_once(self):
        world = ((1, 0, 4, 5, 2, 3), (2, 3, 0, 1, 5, 4))
        self.assertEqual(len(block_sets(world)), 6)
        self.assertEqual(len(covered(world)), 4)
        self.assertEqual(len(covered(MANY_BLOCKS)), 8)


class TestPrime(unittest.TestCase):
    def test_by_hand(self):
        self.assertIs(is_prime(ONE_SQUARE), False)
        self.assertIs(is_prime(TALL), True)
        self.assertIs(is_prime(LESSON), True)
        self.assertIs(is_prime(ROW), False)
        self.assertIs(is_prime(CIRCLE), False)

    def test_as_many_block_sets(self):
        for world in mixed_worlds():
            told = len(world[0]) > 1 and len(block_sets(world)) == 2
            self.assertIs(is_prime(world), told)
            if len(world[0]) in (2, 3, 5, 7):
                self.assertIs(is_prime(world), True)

    def test_prime_and_no_prime_worlds_of_four_squares(self):
        told = {is_prime(world) for world in all_worlds(4)}
        self.assertEqual(told, {True, False})

    def test_lots_are_prime_alike(self):
        for world in mixed_worlds():
            if len(world[0]) < 6:
                self.assertEqual({is_prime(form) for form in lot(world)}, {is_prime(world)})


class TestOverBoth(unittest.TestCase):
    def test_by_hand(self):
        self.assertEqual(over_both(ONE_SQUARE, ONE_SQUARE, 0, 0), ONE_SQUARE)
        self.assertEqual(over_both(TALL, LONG, 0, 0), ((1, 0, 3, 2), (2, 3, 0, 1)))
        self.assertEqual(over_both(LONG, LONG, 0, 1), LONG)
        self.assertEqual(over_both(ROW, LONG, 2, 1), ROW)
        # (0, 0), right of it (1, 1), then (2, 0), (0, 1), (1, 0), (2, 1).
        circle = ((1, 2, 0), (0, 1, 2))
        self.assertEqual(over_both(circle, LONG, 0, 0), CIRCLE)

    def test_numbered_as_they_are_met(self):
        self.assertEqual(over_both(LESSON, LESSON, 1, 1), renamed(LESSON, (1, 0, 2)))
        for world in mixed_worlds():
            n = len(world[0])
            for s in range(n):
                below = over_both(world, ONE_SQUARE, s, 0)
                met = [s]
                for t in met:
                    met += [near for near in (world[0][t],) if near not in met]
                    met += [near for near in (world[1][t],) if near not in met]
                self.assertEqual(below, renamed(world, tuple(met)))
                self.assertTrue(are_alike(over_both(world, world, s, s), world))

    def test_too_many(self):
        # Nine pairs, and eight of them.
        circle = ((1, 2, 0), (0, 1, 2))
        upright = ((0, 1, 2), (1, 2, 0))
        pairs = ((circle, upright), (LESSON, circle), (((1, 2, 3, 4, 0), (0, 1, 2, 3, 4)), LONG))
        for one, other in pairs:
            with self.assertRaises(TooMany) as caught:
                over_both(one, other, 0, 0)
            self.assertEqual(caught.exception.limit, 8)
        self.assertEqual(len(over_both(ROW, TALL, 0, 0)[0]), 8)

    def test_maps_to_both(self):
        worlds = [world for world in mixed_worlds() if len(world[0]) < 5][::4]
        for one in worlds:
            for other in worlds:
                for s in range(len(one[0])):
                    for t in range(len(other[0])):
                        self.check_over(one, other, s, t)

    def check_over(self, one, other, s, t):
        met = {(s, t)}
        while True:
            more = met | {(p[x], q[y]) for x, y in met for p, q in zip(one, other)}
            if more == met:
                break
            met = more
        if len(met) > 8:
            with self.assertRaises(TooMany):
                over_both(one, other, s, t)
            return
        above = over_both(one, other, s, t)
        self.assertEqual(len(check_world(above)[0]), len(met))
        self.assertIn(s, [f[0] for f in maps(above, one)])
        self.assertIn(t, [f[0] for f in maps(above, other)])

    def test_covers_of_both_cover_it(self):
        for f in maps(CIRCLE, LONG):
            for g in maps(CIRCLE, ((1, 2, 0), (0, 1, 2))):
                above = over_both(LONG, ((1, 2, 0), (0, 1, 2)), f[0], g[0])
                self.assertNotEqual(maps(CIRCLE, above), ())


if __name__ == "__main__":
    unittest.main()
