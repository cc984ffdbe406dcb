"""[70], [71]: points and where words lead them."""

import unittest
from itertools import permutations

from sample import (
    BAD_WORDS,
    GREAT,
    LESSON,
    NEARLY_TOO_GREAT,
    ONE_SQUARE,
    TOO_GREAT,
    mixed_worlds,
    some_word,
)
from squareworlds.corners import holes
from squareworlds.covers import maps
from squareworlds.deeds import done, matrix
from squareworlds.ends import back_words
from squareworlds.errors import NotWord, TooMany
from squareworlds.halfturns import half_turns, is_twofold, stays
from squareworlds.listings import undone
from squareworlds.lists import worlds
from squareworlds.points import point_behind, point_lot, point_lots
from squareworlds.worlds import renamed

FIELD = ((1, 0, 3, 2), (2, 3, 0, 1))
TALL = ((0, 1), (1, 0))


def all_points(world, k):
    squares, entries = range(len(world[0])), range(k)
    points = [(s, i, j) for s in squares for i in entries for j in entries]
    return [point for point in points if point[1] > 0 or point[2] > 0]


def by_matrix(world, k, point, letter):
    """The point behind a letter by its matrix, by going in the world behind it
    from the lower left corner of what became of the square."""
    s, i, j = point
    (a, b), (c, d) = matrix(letter)
    x = a * i + b * j + (k if letter == "C" else 0)
    y = c * i + d * j + (k if letter == "c" else 0)
    right, up = done(world, letter)
    for step, times in ((right, x // k), (up, y // k)):
        for _ in range(abs(times)):
            s = step[s] if times > 0 else undone(step)[s]
    return (s, x % k, y % k)


def read_by_all(world, word):
    """All listings by which the world behind a word is renamed to the world."""
    behind = done(world, word)
    listings = permutations(range(len(world[0])))
    return [p for p in listings if renamed(behind, p) == world]


def left_by_half_turns(world, k):
    """The points that half turns which make the world twofold leave."""
    right, up = world
    left = set()
    for turn in half_turns(world):
        if sum(map(len, stays(world, turn))) == 2 * holes(world) + 2:
            for s, i, j in all_points(world, k):
                there = (turn[s], k - i, k - j)
                if i == 0:
                    there = (right[turn[s]], 0, k - j)
                if j == 0:
                    there = (up[turn[s]], k - i, 0)
                if there == (s, i, j):
                    left.add(there)
    return left


def lots_by_back_words(world, k):
    """The point lots, by what the back words do to all points."""
    doings = []
    for word in back_words(world) + ("", "aA"):
        for p in read_by_all(world, word):
            doing = {}
            for point in all_points(world, k):
                s, i, j = point_behind(world, k, point, word)
                doing[point] = (p.index(s), i, j)
            doings.append(doing)
    found = []
    for point in all_points(world, k):
        if not any(point in told for told in found):
            told = [point]
            for here in told:
                for doing in doings:
                    if doing[here] not in told:
                        told.append(doing[here])
            found.append(tuple(sorted(told)))
    return tuple(sorted(found))


class TestPointBehind(unittest.TestCase):
    def test_leant(self):
        # Below, just at, and above 3.
        self.assertEqual(point_behind(LESSON, 3, (1, 1, 1), "a"), (1, 2, 1))
        self.assertEqual(point_behind(LESSON, 3, (2, 1, 2), "a"), (2, 0, 2))
        self.assertEqual(point_behind(LESSON, 3, (0, 1, 2), "a"), (1, 0, 2))
        self.assertEqual(point_behind(LESSON, 3, (0, 2, 2), "a"), (1, 1, 2))
        self.assertEqual(point_behind(LESSON, 3, (0, 2, 0), "a"), (0, 2, 0))
        self.assertEqual(point_behind(LESSON, 3, (0, 0, 2), "a"), (0, 2, 2))

    def test_lifted(self):
        self.assertEqual(point_behind(LESSON, 3, (1, 1, 1), "b"), (1, 1, 2))
        self.assertEqual(point_behind(LESSON, 3, (0, 1, 2), "b"), (2, 1, 0))
        self.assertEqual(point_behind(LESSON, 3, (0, 2, 2), "b"), (2, 2, 1))
        self.assertEqual(point_behind(LESSON, 3, (0, 2, 0), "b"), (0, 2, 2))
        self.assertEqual(point_behind(LESSON, 3, (0, 0, 2), "b"), (0, 0, 2))

    def test_turned(self):
        self.assertEqual(point_behind(LESSON, 3, (0, 2, 1), "c"), (0, 1, 1))
        self.assertEqual(point_behind(LESSON, 3, (0, 2, 0), "c"), (0, 0, 1))
        self.assertEqual(point_behind(LESSON, 3, (0, 0, 2), "c"), (1, 2, 0))
        self.assertEqual(point_behind(LESSON, 3, (2, 0, 1), "c"), (2, 1, 0))

    def test_undone(self):
        self.assertEqual(point_behind(LESSON, 3, (1, 1, 2), "A"), (0, 2, 2))
        self.assertEqual(point_behind(LESSON, 3, (1, 2, 2), "A"), (1, 0, 2))
        self.assertEqual(point_behind(LESSON, 3, (2, 2, 1), "B"), (0, 2, 2))
        self.assertEqual(point_behind(LESSON, 3, (0, 2, 2), "B"), (0, 2, 0))
        self.assertEqual(point_behind(LESSON, 3, (0, 1, 1), "C"), (0, 2, 1))
        self.assertEqual(point_behind(LESSON, 3, (0, 1, 0), "C"), (2, 0, 1))

    def test_three_squares_in_a_row(self):
        # To the left and to the right are not the same here.
        world = ((1, 2, 0), (0, 1, 2))
        self.assertEqual(point_behind(world, 2, (0, 1, 1), "a"), (1, 0, 1))
        self.assertEqual(point_behind(world, 2, (0, 0, 1), "A"), (2, 1, 1))
        self.assertEqual(point_behind(world, 2, (0, 0, 1), "c"), (2, 1, 0))
        self.assertEqual(point_behind(world, 2, (0, 1, 0), "C"), (0, 0, 1))
        self.assertEqual(point_behind((world[1], world[0]), 2, (0, 1, 1), "b"), (1, 1, 0))
        self.assertEqual(point_behind((world[1], world[0]), 2, (0, 1, 0), "B"), (2, 1, 1))
        self.assertEqual(point_behind((world[1], world[0]), 2, (0, 1, 0), "C"), (2, 0, 1))

    def test_by_matrices(self):
        for world in mixed_worlds()[::2]:
            for k in (2, 3, 4, 5):
                for point in all_points(world, k):
                    for letter in "abcABC":
                        told = point_behind(world, k, point, letter)
                        self.assertEqual(told, by_matrix(world, k, point, letter))

    def test_letter_by_letter(self):
        for world in mixed_worlds()[::5]:
            for seed in range(4):
                word = some_word("abcABC", 9 + seed, seed)
                for point in all_points(world, 3)[seed::5]:
                    there, told = world, point
                    for letter in word:
                        told = point_behind(there, 3, told, letter)
                        there = done(there, letter)
                    self.assertEqual(point_behind(world, 3, point, word), told)
                    self.assertEqual(point_behind(world, 3, point, ""), point)

    def test_letters_that_undo(self):
        for world in mixed_worlds()[::2]:
            for k in (2, 3, 5):
                for point in all_points(world, k):
                    for word in ("aA", "Aa", "bB", "Bb", "cC", "Cc", "cccc"):
                        self.assertEqual(point_behind(world, k, point, word), point)

    def test_points_stay_unlike(self):
        for world in mixed_worlds()[::2]:
            for k in (2, 5):
                points = all_points(world, k)
                self.assertEqual(len(points), len(world[0]) * (k * k - 1))
                for word in ("a", "B", "c", "C", "abCaB"):
                    told = [point_behind(world, k, point, word) for point in points]
                    self.assertEqual(sorted(told), points)

    def test_words_with_one_matrix(self):
        for world in mixed_worlds()[::2]:
            for one, other in (("aBa", "c"), ("BaB", "c"), ("AbA", "C"), ("aBaaBa", "cc")):
                self.assertEqual(matrix(one), matrix(other))
                points = all_points(world, 3)
                told = [point_behind(world, 3, point, other) for point in points]
                ways = []
                for names in maps(done(world, one), done(world, other)):
                    led = [point_behind(world, 3, point, one) for point in points]
                    ways.append([(names[s], i, j) for s, i, j in led])
                self.assertIn(told, ways)

    def test_long_words(self):
        self.assertEqual(point_behind(LESSON, 2, (0, 1, 1), "aA" * 200), (0, 1, 1))

    def test_no_words(self):
        for word, place in BAD_WORDS:
            with self.assertRaises(NotWord) as caught:
                point_behind(LESSON, 2, (0, 1, 1), word)
            self.assertEqual(caught.exception.place, place)


class TestPointLots(unittest.TestCase):
    def test_one_square(self):
        for k, many in ((2, 1), (3, 1), (4, 2), (5, 1)):
            self.assertEqual(len(point_lots(ONE_SQUARE, k)), many)
        self.assertEqual(point_lots(ONE_SQUARE, 2), (((0, 0, 1), (0, 1, 0), (0, 1, 1)),))
        self.assertEqual(point_lots(ONE_SQUARE, 4)[1], ((0, 0, 2), (0, 2, 0), (0, 2, 2)))

    def test_several_moves(self):
        self.assertEqual(point_lots(FIELD, 2), (tuple(all_points(FIELD, 2)),))
        # What is 1 / 2 up in two squares one above the other is 1 / 4 of both;
        # 1 / 2 to the right and not up, or the same and one square up.
        self.assertEqual(
            point_lots(TALL, 2),
            (
                ((0, 0, 1), (0, 1, 1), (1, 0, 1), (1, 1, 1)),
                ((0, 1, 0), (1, 1, 0)),
            ),
        )

    def test_half_turn(self):
        # The half turn leaves the middles of all squares, that of the right
        # side of 2 (its left one, too), and that of the upper side of 1.
        self.assertEqual(
            point_lots(LESSON, 2),
            (
                ((0, 0, 1), (0, 1, 0), (1, 0, 1), (2, 1, 0)),
                ((0, 1, 1), (1, 1, 1), (2, 1, 1)),
                ((1, 1, 0), (2, 0, 1)),
            ),
        )

    def test_by_back_words(self):
        for n in (1, 2, 3, 4):
            for world in worlds(n)[::1 if n < 4 else 4]:
                for k in (2, 3, 4, 5) if n < 4 else (2, 3):
                    self.assertEqual(point_lots(world, k), lots_by_back_words(world, k))
        named = renamed(LESSON, (2, 0, 1))
        self.assertEqual(point_lots(named, 2), lots_by_back_words(named, 2))

    def test_each_point_is_in_one(self):
        for world in mixed_worlds()[::3]:
            if len(world[0]) < 6:
                for k in (2, 4):
                    told = point_lots(world, k)
                    self.assertEqual(list(told), sorted(told))
                    self.assertEqual(sorted(sum(told, ())), all_points(world, k))
                    for points in told:
                        self.assertEqual(list(points), sorted(points))
                        for point in (points[0], points[-1]):
                            self.assertEqual(point_lot(world, k, point), points)

    def test_words_that_bring_back(self):
        for world in [LESSON, TALL, FIELD] + mixed_worlds()[40:90:9]:
            if len(world[0]) < 6:
                for word in back_words(world)[::5]:
                    p = read_by_all(world, word)[-1]
                    for point in all_points(world, 3)[::4]:
                        s, i, j = point_behind(world, 3, point, word)
                        there = (p.index(s), i, j)
                        self.assertIn(there, point_lot(world, 3, point))

    def test_points_that_half_turns_leave(self):
        many = 0
        for world in [TALL, FIELD] + mixed_worlds()[::2]:
            if len(world[0]) < 6 and is_twofold(world):
                for k in (2, 3, 4):
                    left = left_by_half_turns(world, k)
                    many += len(left)
                    for point in left:
                        self.assertTrue(set(point_lot(world, k, point)) <= left)
        self.assertGreater(many, 200)

    def test_a_great_lot(self):
        self.assertEqual(sum(map(len, point_lots(NEARLY_TOO_GREAT, 2))), 24)

    def test_too_many(self):
        for world in (GREAT, TOO_GREAT):
            for call in (
                lambda: point_lot(world, 2, (0, 1, 1)),
                lambda: point_lots(world, 3),
            ):
                with self.assertRaises(TooMany) as caught:
                    call()
                self.assertEqual(caught.exception.limit, 500)
            self.assertEqual(point_behind(world, 2, (0, 1, 1), ""), (0, 1, 1))


if __name__ == "__main__":
    unittest.main()
