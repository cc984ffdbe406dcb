"""[19]: shares, mean shares and sums of rates."""

import unittest
from fractions import Fraction
from math import gcd

from sample import GREAT, LESSON, NEARLY_TOO_GREAT, ONE_SQUARE, TOO_GREAT, mixed_worlds
from squareworlds.corners import corners, holes, kind
from squareworlds.covers import maps
from squareworlds.errors import TooMany
from squareworlds.halfturns import half_turns, is_twofold, stays
from squareworlds.listings import undone
from squareworlds.lists import all_lots
from squareworlds.lots import lot
from squareworlds.rooms import room_sizes
from squareworlds.shares import mean_share, share, sum_of_rates

MEANS = {(): (1, 1), (3,): (10, 9), (2, 2): (5, 4)}
RATES = {(5,): (8, 5), (4, 2): (7, 4), (3, 3): (5, 3), (3, 2, 2): (11, 6)}

# These have no half turn, so they are not twofold.
UNTURNED = (
    ((0, 2, 1, 4, 3), (1, 2, 3, 0, 4)),
    ((0, 1, 3, 4, 2, 5), (1, 2, 0, 3, 5, 4)),
    ((0, 2, 1, 3, 5, 4), (1, 0, 3, 4, 2, 5)),
    ((0, 1, 3, 2, 4, 6, 5), (1, 2, 4, 5, 6, 0, 3)),
    ((0, 2, 1, 3, 5, 4, 6), (1, 0, 3, 4, 6, 2, 5)),
)


def as_fraction(told):
    assert type(told) is tuple and gcd(*told) == 1 and told[1] >= 1
    return Fraction(*told)


def worlds_with_lots():
    return [world for world in mixed_worlds() if len(world[0]) < 7]


class TestShares(unittest.TestCase):
    def test_by_hand(self):
        self.assertEqual(share(ONE_SQUARE), (1, 1))
        self.assertEqual(share(LESSON), (3, 2))
        self.assertEqual(share(((1, 2, 0, 3), (3, 1, 2, 0))), (4, 3))
        self.assertEqual(share(((1, 0, 2, 3), (2, 1, 3, 0))), (5, 2))
        self.assertEqual(share(((1, 2, 3, 0), (0, 1, 2, 3))), (1, 4))
        self.assertEqual(share(((0, 1, 2, 3), (1, 2, 3, 0))), (4, 1))
        # The shares of the lot are 3 / 2, 3 / 2 and 1 / 3.
        self.assertEqual(mean_share(LESSON), (10, 9))
        self.assertEqual(sum_of_rates(LESSON), (4, 3))
        self.assertEqual(sum_of_rates(ONE_SQUARE), (1, 1))

    def test_against_fractions(self):
        for world in worlds_with_lots():
            told = sum(Fraction(height, width) for width, height in room_sizes(world))
            self.assertEqual(as_fraction(share(world)), told)
            forms = lot(world)
            mean = sum(as_fraction(share(form)) for form in forms) / len(forms)
            self.assertEqual(as_fraction(mean_share(world)), mean)
            turns = [len(corner) for corner in corners(world)]
            rate = mean + sum(Fraction((t - 1) * (t + 1), 12 * t) for t in turns)
            self.assertEqual(as_fraction(sum_of_rates(world)), rate)

    def test_means_by_kinds(self):
        met = set()
        for world in mixed_worlds():
            if kind(world) in MEANS and len(world[0]) < 8:
                met.add(kind(world))
                self.assertEqual(mean_share(world), MEANS[kind(world)])
        self.assertEqual(met, set(MEANS))

    def test_rates_of_worlds_that_are_not_twofold(self):
        for world in UNTURNED:
            self.assertEqual(maps(world, (undone(world[0]), undone(world[1]))), ())
            self.assertEqual(sum_of_rates(world), RATES[kind(world)])
        self.assertEqual({kind(world) for world in UNTURNED}, set(RATES))

    def test_rates_in_spite_of_half_turns(self):
        # These have half turns, but none that makes them twofold.
        for world in (
            ((0, 2, 1, 4, 3), (1, 2, 3, 4, 0)),
            ((0, 2, 1, 3, 5, 4), (1, 3, 4, 5, 0, 2)),
            ((0, 2, 1, 3, 4, 6, 5), (1, 3, 4, 5, 6, 2, 0)),
        ):
            self.assertNotEqual(half_turns(world), ())
            self.assertIs(is_twofold(world), False)
            self.assertEqual(sum_of_rates(world), RATES[kind(world)])

    def test_rates_of_twofold_worlds(self):
        worlds = [forms[0] for n in (1, 2, 3, 4, 5) for forms in all_lots(n)]
        worlds += [
            ((0, 2, 1, 3, 5, 4), (1, 2, 3, 4, 0, 5)),
            ((0, 2, 1, 3, 4, 6, 5), (1, 3, 4, 2, 5, 0, 6)),
            ((0, 2, 1, 4, 3, 6, 5), (1, 0, 3, 2, 5, 4, 6)),
            ((0, 2, 1, 4, 3, 6, 5, 7), (1, 0, 3, 2, 5, 4, 7, 6)),
        ]
        met = set()
        for world in worlds:
            if is_twofold(world):
                met.add(kind(world))
                rate = as_fraction(sum_of_rates(world))
                self.assertEqual({self.rate_by(world, h) for h in self.turns_of(world)}, {rate})
        self.assertEqual(met, {(), (3,), (2, 2), (5,), (3, 3), (3, 2, 2), (7,), (4, 4)})

    def turns_of(self, world):
        """The half turns that make a world twofold."""
        squares = tuple(range(len(world[0])))
        most = 2 * holes(world) + 2
        return [
            h
            for h in half_turns(world)
            if tuple(h[s] for s in h) == squares and sum(map(len, stays(world, h))) == most
        ]

    def rate_by(self, world, half_turn):
        *middles, kept = stays(world, half_turn)
        turns = [len(corner) for corner in corners(world)]
        total = sum(len(told) for told in middles)
        return (total + sum(Fraction(1, turns[index]) for index in kept)) / 4

    def test_the_greatest_lot(self):
        self.assertEqual(sum_of_rates(NEARLY_TOO_GREAT), (29, 15))

    def test_too_many(self):
        for function in (mean_share, sum_of_rates):
            for world in (GREAT, TOO_GREAT):
                with self.assertRaises(TooMany) as caught:
                    function(world)
                self.assertEqual(caught.exception.limit, 500)
        self.assertEqual(as_fraction(share(GREAT)), sum(
            Fraction(height, width) for width, height in room_sizes(GREAT)
        ))


if __name__ == "__main__":
    unittest.main()
