"""[16], [17], [18], [20]: rows, rooms and directions."""

import unittest
from math import gcd

from sample import LESSON, ONE_SQUARE, mixed, mixed_worlds
from squareworlds.backs import brings_back
from squareworlds.corners import corner_at, corners, holes, kind
from squareworlds.deeds import done, word_of
from squareworlds.rooms import (
    directions_of,
    room_sizes,
    room_sizes_along,
    rooms,
    rows_of,
    seams,
)
from squareworlds.worlds import renamed

# Three squares in a row with one above the first; two with two above the first.
HOOK = ((1, 2, 0, 3), (3, 1, 2, 0))
TOWER = ((1, 0, 2, 3), (2, 1, 3, 0))
# The rows (0, 1), (4, 5) and (2, 3) lie one above the other.
FLAT = ((1, 0, 3, 2, 5, 4), (4, 5, 0, 1, 2, 3))
DIRECTIONS = [(p, q) for p in range(-6, 7) for q in range(-6, 7) if gcd(p, q) == 1]
FAR = [(50, 49), (-50, 49), (50, -1), (-49, -50), (1, 50), (0, -1), (-1, 0), (17, -44), (-27, 50)]


def matrices_along(p, q):
    """Some matrices that lead (p, q) to (1, 0)."""
    for x in range(-60, 61):
        for y in range(-60, 61):
            if x * p + y * q == 1:
                yield ((x, y), (-q, p))


class TestRows(unittest.TestCase):
    def test_by_hand(self):
        self.assertEqual(rows_of(ONE_SQUARE), ((0,),))
        self.assertEqual(rows_of(LESSON), ((0, 1), (2,)))
        self.assertEqual(rows_of(((2, 0, 3, 1), (0, 1, 2, 3))), ((0, 2, 3, 1),))
        self.assertEqual(rows_of(((0, 3, 4, 1, 2), (1, 2, 0, 4, 3))), ((0,), (1, 3), (2, 4)))


class TestRooms(unittest.TestCase):
    def test_by_hand(self):
        self.assertEqual(rooms(LESSON), (((0, 1),), ((2,),)))
        self.assertEqual(rooms(HOOK), (((0, 1, 2),), ((3,),)))
        self.assertEqual(room_sizes(HOOK), ((1, 1), (3, 1)))
        self.assertEqual(rooms(TOWER), (((0, 1),), ((2,), (3,))))
        self.assertEqual(room_sizes(TOWER), ((1, 2), (2, 1)))
        # The lowest row of the tower is not the least one here.
        turned = renamed(TOWER, (3, 2, 0, 1))
        self.assertEqual(rooms(turned), (((1,), (0,)), ((2, 3),)))

    def test_one_hole(self):
        self.assertEqual(rooms(ONE_SQUARE), (((0,),),))
        self.assertEqual(kind(FLAT), ())
        self.assertEqual(rooms(FLAT), (((0, 1), (4, 5), (2, 3)),))
        self.assertEqual(room_sizes(FLAT), ((2, 3),))
        self.assertEqual(rooms(((1, 2, 0), (1, 2, 0))), (((0, 1, 2),),))
        self.assertEqual(rooms(((0, 1, 2), (2, 0, 1))), (((0,), (2,), (1,)),))

    def test_equal_sizes_are_told_each(self):
        world = done(((1, 0, 3, 2), (0, 3, 2, 1)), "")
        self.assertEqual(room_sizes(world), ((2, 1), (2, 1)))

    def test_facts(self):
        for world in mixed_worlds():
            told = rooms(world)
            self.assertEqual(list(told), sorted(told))
            rows = sorted(row for room in told for row in room)
            self.assertEqual(tuple(rows), rows_of(world))
            sizes = room_sizes(world)
            self.assertEqual(list(sizes), sorted(sizes))
            self.assertEqual(len(sizes), len(told))
            self.assertEqual(sum(w * h for w, h in sizes), len(world[0]))
            self.assertEqual(room_sizes(done(world, "a")), sizes)
            self.assertEqual(room_sizes(renamed(world, mixed(len(world[0]), 8))), sizes)

    def test_rooms_cannot_be_made_longer(self):
        for world in mixed_worlds():
            right, up = world
            plain = [c for c, corner in enumerate(corners(world)) if len(corner) == 1]
            told = rooms(world)
            home = {row: room for room in told for row in room}
            for room in told:
                for low, high in zip(room, room[1:]):
                    self.assertTrue(self.is_open(world, low, plain))
                    self.assertEqual({up[s] for s in low}, set(high))
                last = room[-1]
                if kind(world) != ():
                    self.assertFalse(self.is_open(world, last, plain))
            for row in rows_of(world):
                if self.is_open(world, row, plain):
                    above = [t for t in rows_of(world) if up[row[0]] in t][0]
                    self.assertIs(home[row], home[above])

    def is_open(self, world, row, plain):
        return all(corner_at(world, s) in plain for s in row)

    def test_leaning_that_brings_back(self):
        for world in mixed_worlds():
            for m in range(-200, 201):
                if all(m * h % w == 0 for w, h in room_sizes(world)):
                    self.assertTrue(brings_back(world, ((1, m), (0, 1))))


class TestDirections(unittest.TestCase):
    def test_by_hand(self):
        self.assertEqual(room_sizes_along(HOOK, (1, 0)), ((1, 1), (3, 1)))
        self.assertEqual(room_sizes_along(HOOK, (0, 1)), ((1, 2), (2, 1)))
        self.assertEqual(room_sizes_along(TOWER, (0, 1)), ((1, 1), (3, 1)))
        self.assertEqual(room_sizes_along(LESSON, (1, 1)), ((3, 1),))
        self.assertEqual(room_sizes_along(FLAT, (0, 1)), ((3, 2),))
        self.assertEqual(room_sizes_along(ONE_SQUARE, (50, 49)), ((1, 1),))
        self.assertEqual(seams(HOOK, (1, 0)), 2)
        self.assertEqual(seams(LESSON, (1, 1)), 1)

    def test_the_word_is_free(self):
        for world in mixed_worlds()[::5]:
            for p, q in ((1, 0), (0, 1), (-1, 0), (2, 3), (-3, 2), (5, -4), (-7, -5)):
                told = room_sizes_along(world, (p, q))
                for matrix in matrices_along(p, q):
                    self.assertEqual(room_sizes(done(world, word_of(matrix))), told)

    def test_far_directions(self):
        for world in mixed_worlds()[::5]:
            for p, q in FAR:
                told = room_sizes_along(world, (p, q))
                for matrix in matrices_along(p, q):
                    self.assertEqual(room_sizes(done(world, word_of(matrix))), told)

    def test_both_ways_are_alike(self):
        for world in mixed_worlds()[::2]:
            for p, q in DIRECTIONS + FAR:
                told = room_sizes_along(world, (p, q))
                self.assertEqual(room_sizes_along(world, (-p, -q)), told)
                self.assertEqual(sum(w * h for w, h in told), len(world[0]))
            self.assertEqual(room_sizes_along(world, (1, 0)), room_sizes(world))
            self.assertEqual(room_sizes_along(world, (0, 1)), room_sizes(done(world, "c")))

    def test_behind_words(self):
        for world in mixed_worlds()[::3]:
            for p, q in DIRECTIONS[::7]:
                told = room_sizes_along(world, (p, q))
                self.assertEqual(room_sizes_along(done(world, "a"), (p + q, q)), told)
                self.assertEqual(room_sizes_along(done(world, "b"), (p, p + q)), told)
                self.assertEqual(room_sizes_along(done(world, "c"), (q, -p)), told)

    def test_seams(self):
        for world in mixed_worlds()[::2]:
            bound = holes(world) + len(kind(world)) - 1
            if kind(world) == ():
                bound = 1
            for direction in DIRECTIONS[::3]:
                told = seams(world, direction)
                self.assertEqual(told, len(room_sizes_along(world, direction)))
                self.assertTrue(1 <= told <= bound)

    def test_directions_of(self):
        self.assertEqual(directions_of(ONE_SQUARE, 1), ((0, 1), (1, 0), (1, 1)))
        self.assertEqual(directions_of(LESSON, 1), ((1, 1),))
        self.assertEqual(
            directions_of(ONE_SQUARE, 2), ((0, 1), (1, 0), (1, 1), (1, 2), (2, 1))
        )

    def test_directions_of_against_seams(self):
        for world in mixed_worlds()[::6]:
            for many in (1, 2, 5, 12):
                told = directions_of(world, many)
                self.assertEqual(list(told), sorted(set(told)))
                numbers = range(many + 1)
                pairs = [(p, q) for p in numbers for q in numbers if gcd(p, q) == 1]
                alone = tuple(pair for pair in pairs if seams(world, pair) == 1)
                self.assertEqual(told, alone)


if __name__ == "__main__":
    unittest.main()
