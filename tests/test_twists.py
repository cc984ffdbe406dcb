"""[67] to [69]: rooms twisted, raised and lowered."""

import unittest

from sample import (
    GREAT,
    GREATER_WORLDS,
    LESSON,
    ONE_SQUARE,
    TOO_GREAT,
    TWOFOLD,
    all_worlds,
    mixed_worlds,
)
from squareworlds.corners import kind
from squareworlds.deeds import done
from squareworlds.errors import NotHigh, TooMany
from squareworlds.lists import worlds
from squareworlds.lots import lot
from squareworlds.rooms import room_sizes, rooms
from squareworlds.shares import share
from squareworlds.straights import chords
from squareworlds.twists import lowered, raised, twist_lot, twisted
from squareworlds.walks import flats
from squareworlds.worlds import are_alike, check_world, least_form, renamed

TALL = ((0, 1), (1, 0))
# Three squares in a row with one above the first; two with two above the first.
HOOK = ((1, 2, 0, 3), (3, 1, 2, 0))
TOWER = ((1, 0, 2, 3), (2, 1, 3, 0))
# The rows (0, 1), (4, 5) and (2, 3) lie one above the other.
FLAT = ((1, 0, 3, 2, 5, 4), (4, 5, 0, 1, 2, 3))
# A lot of six worlds, but more than 500 by twisting single rooms.
LITTLE_LOT = ((1, 0, 4, 5, 2, 6, 7, 3), (2, 3, 0, 1, 5, 6, 7, 4))
HUGE = 10 ** 30
WORLDS = mixed_worlds() + GREATER_WORLDS + all_worlds(4)[::13]


def rooms_of_worlds():
    for world in WORLDS:
        for k, room in enumerate(rooms(world)):
            yield world, k, room


class TestTwisted(unittest.TestCase):
    def test_by_hand(self):
        self.assertEqual(twisted(LESSON, 0, 1), ((1, 0, 2), (1, 2, 0)))
        self.assertEqual(twisted(LESSON, 0, -1), ((1, 0, 2), (1, 2, 0)))
        self.assertEqual(twisted(LESSON, 1, 1), LESSON)
        right = HOOK[0]
        self.assertEqual(twisted(HOOK, 0, 1), (right, (2, 3, 1, 0)))
        self.assertEqual(twisted(HOOK, 0, -1), (right, (1, 2, 3, 0)))
        self.assertEqual(twisted(HOOK, 0, 2), (right, (1, 2, 3, 0)))
        self.assertEqual(twisted(TOWER, 0, 1), ((1, 0, 2, 3), (1, 2, 3, 0)))
        self.assertEqual(twisted(TOWER, 1, 1), TOWER)
        # Only the highest row is led elsewhere.
        self.assertEqual(twisted(FLAT, 0, 1), (FLAT[0], (4, 5, 1, 0, 2, 3)))

    def test_times(self):
        for world, k, room in rooms_of_worlds():
            width = len(room[0])
            for times in (0, width, -width, 3 * width, HUGE * width):
                self.assertEqual(twisted(world, k, times), world)
            once = twisted(world, k, 1)
            for times in (1 + width, 1 - width, 1 + HUGE * width, 1 - HUGE * width):
                self.assertEqual(twisted(world, k, times), once)
            self.assertEqual(twisted(once, k, -1), world)
            self.assertEqual(twisted(once, k, 2), twisted(world, k, 3))

    def test_where_up_leads(self):
        for world, k, room in rooms_of_worlds():
            for times in (-2, -1, 1, 2, 3):
                right, up = twisted(world, k, times)
                self.assertEqual(right, world[0])
                for square in range(len(right)):
                    there = square
                    if square in room[-1]:
                        step = right.index if times > 0 else right.__getitem__
                        for _ in range(abs(times)):
                            there = step(there)
                    self.assertEqual(up[square], world[1][there])

    def test_what_stays(self):
        for world, k, room in rooms_of_worlds():
            other = twisted(world, k, 1)
            check_world(other)
            self.assertEqual(kind(other), kind(world))
            self.assertEqual(room_sizes(other), room_sizes(world))
            self.assertEqual(rooms(other), rooms(world))
            self.assertEqual(share(other), share(world))
            self.assertEqual(chords(other, 1, 0), chords(world, 1, 0))

    def test_all_rooms_by_their_heights(self):
        for world in WORLDS:
            other = world
            for k, room in enumerate(rooms(world)):
                other = twisted(other, k, len(room))
            self.assertTrue(are_alike(other, done(world, "a")))


class TestRaised(unittest.TestCase):
    def test_by_hand(self):
        self.assertEqual(raised(LESSON, 0, 1), ((1, 0, 2, 4, 3), (3, 4, 0, 2, 1)))
        self.assertEqual(
            raised(LESSON, 0, 2), ((1, 0, 2, 4, 3, 6, 5), (3, 4, 0, 5, 6, 2, 1))
        )
        self.assertEqual(raised(LESSON, 1, 1), ((1, 0, 2, 3), (2, 1, 3, 0)))
        self.assertEqual(raised(ONE_SQUARE, 0, 1), TALL)
        self.assertEqual(raised(HOOK, 0, 1), ((1, 2, 0, 3, 5, 6, 4), (4, 5, 6, 0, 3, 1, 2)))
        self.assertEqual(raised(FLAT, 0, 1), (FLAT[0] + (7, 6), (4, 5, 6, 7, 2, 3, 0, 1)))
        # In the sequence of the highest row as it is told, not of the lowest.
        world = ((2, 3, 0, 1, 4), (3, 2, 1, 4, 0))
        self.assertEqual(rooms(world), (((0, 2), (1, 3)), ((4,),)))
        self.assertEqual(raised(world, 0, 1), ((2, 3, 0, 1, 4, 6, 5), (3, 5, 1, 6, 0, 2, 4)))

    def test_rooms(self):
        for world, k, room in rooms_of_worlds():
            for more in (1, 2, 3):
                if len(world[0]) + more * len(room[0]) <= 8:
                    other = check_world(raised(world, k, more))
                    self.assertEqual(kind(other), kind(world))
                    sizes = [(len(told[0]), len(told)) for told in rooms(world)]
                    sizes[k] = (len(room[0]), len(room) + more)
                    self.assertEqual([(len(told[0]), len(told)) for told in rooms(other)], sizes)

    def test_where_up_leads(self):
        for world, k, room in rooms_of_worlds():
            n, width = len(world[0]), len(room[0])
            for more in range(1, (8 - n) // width + 1):
                right, up = raised(world, k, more)
                self.assertEqual(right[:n], world[0])
                for place, square in enumerate(room[-1]):
                    new = [n + row * width + place for row in range(more)]
                    way_up = [square, *new, world[1][square]]
                    self.assertEqual([up[s] for s in way_up[:-1]], way_up[1:])
                    self.assertEqual(
                        [right[s] for s in new], [s - place + (place + 1) % width for s in new]
                    )
                for square in range(n):
                    if square not in room[-1]:
                        self.assertEqual(up[square], world[1][square])

    def test_too_many(self):
        for world, k, room in rooms_of_worlds():
            most = (8 - len(world[0])) // len(room[0])
            if most > 0:
                self.assertEqual(
                    len(raised(world, k, most)[0]), len(world[0]) + most * len(room[0])
                )
            for more in (most + 1, most + 2, HUGE):
                with self.assertRaises(TooMany) as caught:
                    raised(world, k, more)
                self.assertEqual(caught.exception.limit, 8)


class TestLowered(unittest.TestCase):
    def test_by_hand(self):
        self.assertEqual(lowered(TOWER, 1), LESSON)
        self.assertEqual(lowered(TALL, 0), ONE_SQUARE)
        self.assertEqual(lowered(FLAT, 0), ((1, 0, 3, 2), (2, 3, 0, 1)))
        # The highest row is that of square 0, so the others move down.
        turned = renamed(TOWER, (3, 2, 0, 1))
        self.assertEqual(rooms(turned), (((1,), (0,)), ((2, 3),)))
        self.assertEqual(lowered(turned, 0), ((0, 2, 1), (1, 0, 2)))

    def test_raised_first(self):
        for world, k, room in rooms_of_worlds():
            if len(world[0]) + len(room[0]) <= 8:
                self.assertEqual(lowered(raised(world, k, 1), k), world)
            if len(world[0]) + 2 * len(room[0]) <= 8:
                self.assertEqual(lowered(raised(world, k, 2), k), raised(world, k, 1))

    def test_what_is_left(self):
        many = 0
        for world, k, room in rooms_of_worlds():
            if len(room) > 1:
                many += 1
                other = check_world(lowered(world, k))
                self.assertEqual(kind(other), kind(world))
                kept = [s for s in range(len(world[0])) if s not in room[-1]]
                right, up = world
                for place, square in enumerate(kept):
                    self.assertEqual(kept[other[0][place]], right[square])
                    above = up[square] if up[square] in kept else up[up[square]]
                    self.assertEqual(kept[other[1][place]], above)
        self.assertGreater(many, 12)

    def test_not_high(self):
        for world, k, room in rooms_of_worlds():
            if len(room) == 1:
                with self.assertRaises(NotHigh):
                    lowered(world, k)
        for world, k in ((LESSON, 0), (LESSON, 1), (TOWER, 0), (ONE_SQUARE, 0)):
            with self.assertRaises(NotHigh):
                lowered(world, k)


class TestTwistLot(unittest.TestCase):
    def through_all(self, world):
        """All worlds as told, by going from world to world."""
        met = [least_form(world)]
        for here in met:
            near = [done(here, "c"), done(here, "C")]
            for k, room in enumerate(rooms(here)):
                near += [twisted(here, k, times) for times in range(1, len(room[0]))]
            for form in map(least_form, near):
                if form not in met:
                    met.append(form)
        return tuple(sorted(met))

    def test_by_hand(self):
        self.assertEqual(twist_lot(ONE_SQUARE), (ONE_SQUARE,))
        self.assertEqual(twist_lot(TALL), lot(TALL))
        self.assertEqual(twist_lot(LESSON), lot(LESSON))
        # Two rows of two squares are a lot by themselves, but if they are twisted
        # once, not twice, they are of the lot of four squares in a row.
        self.assertEqual(len(lot(((1, 2, 3, 0), (0, 1, 2, 3)))), 6)
        self.assertEqual(twist_lot(((1, 2, 3, 0), (0, 1, 2, 3))), flats(4))
        self.assertEqual(twist_lot(((1, 0, 3, 2), (2, 3, 0, 1))), flats(4))

    def test_by_going_from_world_to_world(self):
        for n in range(1, 5):
            for world in worlds(n):
                self.assertEqual(twist_lot(world), self.through_all(world))
        for world in worlds(5)[::12]:
            self.assertEqual(twist_lot(world), self.through_all(world))

    def test_lots_are_among_it(self):
        for n in range(1, 6):
            for world in worlds(n)[::3]:
                told = twist_lot(world)
                self.assertEqual(list(told), sorted(set(told)))
                self.assertEqual({kind(form) for form in told}, {kind(world)})
                self.assertTrue(set(lot(world)) <= set(told))
                for form in told[::4]:
                    self.assertTrue(set(lot(form)) <= set(told))
                    self.assertEqual(twist_lot(form), told)

    def test_it_may_be_greater_than_the_lot(self):
        world = ((0, 1, 2, 4, 3), (1, 2, 3, 0, 4))
        self.assertEqual((len(lot(world)), len(twist_lot(world))), (18, 27))

    def test_too_many(self):
        self.assertEqual(len(lot(LITTLE_LOT)), 6)
        for world in (GREAT, TOO_GREAT, LITTLE_LOT):
            with self.assertRaises(TooMany) as caught:
                twist_lot(world)
            self.assertEqual(caught.exception.limit, 500)
        self.assertEqual(len(twist_lot(TWOFOLD[4, 4])), 450)


if __name__ == "__main__":
    unittest.main()
