"""[56], [57]: groups, and the normal worlds above others."""

import unittest

from sample import LESSON, ONE_SQUARE, all_worlds, listings, mixed_worlds
from squareworlds.corners import kind
from squareworlds.covers import maps, moves
from squareworlds.deeds import done
from squareworlds.errors import TooMany
from squareworlds.groups import group_order, in_group, is_normal, normal_cover, still_order
from squareworlds.lots import lot
from squareworlds.worlds import least_form, world_breach

FIELD = ((1, 0, 3, 2), (2, 3, 0, 1))
# A normal world of eight squares with more than one hole.
EIGHT = ((1, 2, 3, 0, 5, 6, 7, 4), (4, 7, 6, 5, 2, 1, 0, 3))
# Groups of all listings of eight numbers, and of all even ones.
ALL_OF_EIGHT = ((1, 2, 3, 4, 5, 6, 7, 0), (1, 0, 2, 3, 4, 5, 6, 7))
EVEN_OF_EIGHT = ((1, 2, 0, 3, 4, 5, 6, 7), (0, 2, 3, 4, 5, 6, 7, 1))
# Groups of 8 and of 10 listings.
SQUARE_OF_FOUR = ((1, 2, 3, 0), (0, 3, 2, 1))
FIVE = ((1, 0, 3, 2, 4), (0, 2, 1, 4, 3))


def all_products(world):
    """All listings that come of right and up, by going through the products."""
    found = {tuple(range(len(world[0])))}
    waiting = list(found)
    while waiting:
        listing = waiting.pop()
        for step in world:
            near = tuple(step[entry] for entry in listing)
            if near not in found:
                found.add(near)
                waiting.append(near)
    return found


def is_even(listing):
    pairs = [(i, j) for j in range(len(listing)) for i in range(j)]
    return sum(listing[i] > listing[j] for i, j in pairs) % 2 == 0


def worlds_of_few_squares():
    return [world for world in mixed_worlds() if len(world[0]) < 6] + all_worlds(4)[::7]


class TestOrder(unittest.TestCase):
    def test_by_hand(self):
        self.assertEqual(group_order(ONE_SQUARE), 1)
        self.assertEqual(group_order(((1, 0), (0, 1))), 2)
        self.assertEqual(group_order(((1, 2, 0), (2, 0, 1))), 3)
        self.assertEqual(group_order(LESSON), 6)
        self.assertEqual(group_order(FIELD), 4)
        self.assertEqual(group_order(SQUARE_OF_FOUR), 8)
        self.assertEqual(group_order(FIVE), 10)
        self.assertEqual(group_order(EIGHT), 8)

    def test_eight_squares(self):
        self.assertEqual(group_order(ALL_OF_EIGHT), 40320)
        self.assertEqual(group_order(EVEN_OF_EIGHT), 20160)
        self.assertEqual(group_order((ALL_OF_EIGHT[1], ALL_OF_EIGHT[0])), 40320)
        self.assertEqual(still_order(ALL_OF_EIGHT), 5040)
        self.assertEqual(still_order(EVEN_OF_EIGHT), 2520)

    def test_all_products(self):
        for world in worlds_of_few_squares():
            self.assertEqual(group_order(world), len(all_products(world)))

    def test_still_order(self):
        for world in worlds_of_few_squares():
            still = [listing for listing in all_products(world) if listing[0] == 0]
            self.assertEqual(still_order(world), len(still))

    def test_squares_divide_the_order(self):
        for world in mixed_worlds():
            order = group_order(world)
            self.assertEqual(order % len(world[0]), 0)
            self.assertEqual(still_order(world) * len(world[0]), order)

    def test_behind_words(self):
        for world in mixed_worlds():
            for word in ("a", "B", "c", "abCBa"):
                self.assertEqual(group_order(done(world, word)), group_order(world))
        for world in (LESSON, FIVE, SQUARE_OF_FOUR):
            self.assertEqual({group_order(form) for form in lot(world)}, {group_order(world)})


class TestMembers(unittest.TestCase):
    def test_all_products(self):
        for world in worlds_of_few_squares():
            group = all_products(world)
            for listing in listings(len(world[0])):
                self.assertIs(in_group(world, listing), listing in group)

    def test_behind_words(self):
        for world in worlds_of_few_squares()[::3]:
            for listing in listings(len(world[0])):
                told = in_group(world, listing)
                self.assertIs(in_group(done(world, "aBcA"), listing), told)

    def test_eight_squares(self):
        for listing in listings(8)[::997]:
            self.assertIs(in_group(ALL_OF_EIGHT, listing), True)
            self.assertIs(in_group(EVEN_OF_EIGHT, listing), is_even(listing))

    def test_even_ones(self):
        for world in worlds_of_few_squares():
            both = is_even(world[0]) and is_even(world[1])
            self.assertEqual(both, all(is_even(listing) for listing in all_products(world)))

    def test_what_goes_along_with_all_is_a_move(self):
        for world in worlds_of_few_squares():
            group = all_products(world)
            along = [
                listing
                for listing in listings(len(world[0]))
                if all(
                    [listing[entry] for entry in told] == [told[entry] for entry in listing]
                    for told in group
                )
            ]
            self.assertEqual(tuple(along), moves(world))

    def test_no_listings(self):
        values = [
            None, 0, 3, True, "012", b"012", "", (), [], {}, [0, 1, 2], {0, 1, 2}, (0, 1),
            (0, 1, 2, 3), (0, 1, 1), (0, 0, 0), (1, 2, 3), (-1, 0, 1), (0, 1, -1), (0, 1, 3),
            (0, True, 2), (False, 1, 2), (0, 1, 2.0), (0, 1, "2"), (0, 1, None), (0, 1, (2,)),
            (0, 1, [2]), ((0, 1, 2),), ((0, 1, 2), (0, 1, 2)), (0, 1, 10 ** 400), object(),
        ]
        for value in values:
            self.assertIs(in_group(LESSON, value), False)
        self.assertIs(in_group(LESSON, (0, 1, 2)), True)
        self.assertIs(in_group(ONE_SQUARE, (0,)), True)
        for value in ((False,), (1,), (), [0], 0, None, (0, 1)):
            self.assertIs(in_group(ONE_SQUARE, value), False)
        self.assertIs(in_group(((1, 0), (0, 1)), (True, False)), False)


class TestNormal(unittest.TestCase):
    def test_by_hand(self):
        for world in (ONE_SQUARE, ((1, 0), (0, 1)), FIELD, EIGHT):
            self.assertIs(is_normal(world), True)
        for world in (LESSON, SQUARE_OF_FOUR, FIVE, ALL_OF_EIGHT):
            self.assertIs(is_normal(world), False)
        self.assertEqual(kind(EIGHT), (2, 2, 2, 2))

    def test_by_moves_and_by_the_group(self):
        for world in mixed_worlds():
            self.assertIs(is_normal(world), len(moves(world)) == len(world[0]))
            self.assertIs(is_normal(world), group_order(world) == len(world[0]))

    def test_covers_by_hand(self):
        # The six listings of three numbers, as they are met: nothing, right,
        # up, right and up, up and right, and all three one behind the other.
        self.assertEqual(normal_cover(LESSON), ((1, 0, 4, 5, 2, 3), (2, 3, 0, 1, 5, 4)))
        self.assertEqual(kind(normal_cover(LESSON)), (3, 3))
        self.assertEqual(normal_cover(ONE_SQUARE), ONE_SQUARE)
        self.assertEqual(normal_cover(FIELD), least_form(FIELD))
        self.assertEqual(normal_cover(EIGHT), least_form(EIGHT))
        self.assertEqual(len(normal_cover(SQUARE_OF_FOUR)[0]), 8)
        self.assertEqual(kind(normal_cover(SQUARE_OF_FOUR)), (2, 2, 2, 2))

    def test_which_is_right_behind(self):
        # Right behind a listing, not the listing behind right: told by a
        # world for which these are not alike.
        found = sorted(all_products(SQUARE_OF_FOUR))
        steps = [
            tuple(found.index(tuple(step[entry] for entry in told)) for told in found)
            for step in SQUARE_OF_FOUR
        ]
        self.assertEqual(normal_cover(SQUARE_OF_FOUR), least_form(tuple(steps)))

    def test_covers(self):
        many = 0
        for world in mixed_worlds() + all_worlds(4)[::5]:
            if group_order(world) <= 8:
                many += 1
                cover = normal_cover(world)
                self.assertIsNone(world_breach(cover))
                self.assertEqual(len(cover[0]), group_order(world))
                self.assertEqual(least_form(cover), cover)
                self.assertIs(is_normal(cover), True)
                self.assertTrue(maps(cover, world))
                self.assertEqual(cover == least_form(world), is_normal(world))
        self.assertGreater(many, 40)

    def test_too_many(self):
        for world in mixed_worlds() + [FIVE, ALL_OF_EIGHT, EVEN_OF_EIGHT]:
            if group_order(world) > 8:
                with self.assertRaises(TooMany) as caught:
                    normal_cover(world)
                self.assertEqual(caught.exception.limit, 8)


if __name__ == "__main__":
    unittest.main()
