"""[45] to [48]: counts, classes and crossings of round walks."""

import unittest

from sample import (
    BAD_WALKS,
    BAD_WORDS,
    LESSON,
    ONE_SQUARE,
    determinant,
    mixed_worlds,
    round_walks,
    solved,
    some_word,
)
from squareworlds.classes import (
    class_of,
    class_walks,
    count_of,
    crossing,
    tie_sides,
    walk_behind,
)
from squareworlds.corners import corner_at, corners, corners_of, holes
from squareworlds.deeds import done, matrix
from squareworlds.errors import NotRound, NotWord, TooLong
from squareworlds.walks import walked

TALL = ((0, 1), (1, 0))
FIELD = ((1, 0, 3, 2), (2, 3, 0, 1))
UNDOING = {"r": "l", "l": "r", "u": "d", "d": "u"}


def fewer_worlds():
    return mixed_worlds()[::3]


def turn_counts(world, corner):
    """What turning once about a corner counts."""
    n = len(world[0])
    count = [0] * (2 * n)
    for s in range(n):
        lower_left, lower_right, upper_left, upper_right = corners_of(world, s)
        count[s] = (upper_right == corner) - (lower_right == corner)
        count[n + s] = (upper_left == corner) - (upper_right == corner)
    return tuple(count)


def added(one, other, times=1):
    return tuple(a + times * b for a, b in zip(one, other))


class WalkCase(unittest.TestCase):
    def check_places(self, bad, call):
        for value, place in bad:
            with self.subTest(value=value):
                with self.assertRaises(NotWord) as caught:
                    call(value)
                self.assertEqual(caught.exception.place, place)


class TestCount(WalkCase):
    def test_by_hand(self):
        self.assertEqual(count_of(ONE_SQUARE, 0, ""), (0, 0))
        self.assertEqual(count_of(ONE_SQUARE, 0, "rrrlud"), (2, 0))
        self.assertEqual(count_of(ONE_SQUARE, 0, "rdd"), (1, -2))
        self.assertEqual(count_of(LESSON, 0, "r"), (1, 0, 0, 0, 0, 0))
        self.assertEqual(count_of(LESSON, 0, "l"), (0, -1, 0, 0, 0, 0))
        self.assertEqual(count_of(LESSON, 0, "u"), (0, 0, 0, 1, 0, 0))
        self.assertEqual(count_of(LESSON, 0, "d"), (0, 0, 0, 0, 0, -1))
        self.assertEqual(count_of(LESSON, 0, "ru"), (1, 0, 0, 0, 1, 0))
        self.assertEqual(count_of(LESSON, 0, "urrd"), (0, 0, 2, 0, 0, 0))
        self.assertEqual(count_of(LESSON, 2, "rdll"), (-1, -1, 1, -1, 0, 0))

    def test_letter_by_letter(self):
        for world in fewer_worlds():
            n = len(world[0])
            for square in range(n):
                for k in range(3):
                    walk = some_word("ruld", 30, square + 8 * k)
                    told = [0] * (2 * n)
                    here = square
                    for letter in walk:
                        there = walked(world, here, letter)
                        side = {"r": here, "u": n + here, "l": there, "d": n + there}[letter]
                        told[side] += 1 if letter in "ru" else -1
                        here = there
                    self.assertEqual(count_of(world, square, walk), tuple(told))

    def test_to_and_fro(self):
        for world in fewer_worlds():
            for square, walk in round_walks(world, 4) + [(0, "ru"), (0, "uul")]:
                end = walked(world, square, walk)
                back = "".join(UNDOING[letter] for letter in reversed(walk))
                self.assertEqual(set(count_of(world, square, walk + back)), {0})
                count = count_of(world, square, walk)
                self.assertEqual(count_of(world, end, back), tuple(-entry for entry in count))

    def test_turning_about_corners(self):
        for world in mixed_worlds():
            for index, corner in enumerate(corners(world)):
                for square in corner:
                    told = count_of(world, square, "ruld" * len(corner))
                    self.assertEqual(told, turn_counts(world, index))

    def test_four_hundred_letters(self):
        self.assertEqual(count_of(ONE_SQUARE, 0, "r" * 400), (400, 0))

    def test_wrong_walks(self):
        self.check_places(BAD_WALKS, lambda walk: count_of(LESSON, 1, walk))


class TestTieSides(unittest.TestCase):
    def test_by_hand(self):
        self.assertEqual(tie_sides(ONE_SQUARE), ())
        self.assertEqual(tie_sides(LESSON), ())
        # Right of each square the side joins both corners, above it it does not.
        self.assertEqual(tie_sides(TALL), (0,))
        self.assertEqual(tie_sides(((1, 0), (0, 1))), (2,))
        # Corner 0 has side 0 and 2 to corner 2, sides 4 and 5 to corner 1; then
        # from corner 2 sides 6 and 7 to corner 3.
        self.assertEqual(tie_sides(FIELD), (0, 4, 6))
        self.assertEqual(tie_sides(((1, 2, 3, 0), (0, 1, 2, 3))), (4, 5, 7))

    def test_as_told(self):
        for world in mixed_worlds():
            n = len(world[0])
            ends = [corners_of(world, s)[1::2] for s in range(n)]
            ends += [corners_of(world, s)[2:] for s in range(n)]
            met, ties = [0], []
            for corner in met:
                for side in range(2 * n):
                    if corner in ends[side]:
                        far = sum(ends[side]) - corner
                        if far not in met:
                            met.append(far)
                            ties.append(side)
            self.assertEqual(tie_sides(world), tuple(sorted(ties)))
            self.assertEqual(len(ties), len(corners(world)) - 1)


class TestClass(WalkCase):
    def test_by_hand(self):
        self.assertEqual(class_of(ONE_SQUARE, 0, "ru"), (1, 1))
        self.assertEqual(class_of(LESSON, 0, "rr"), (1, 1, 0, 0, 0, 0))
        self.assertEqual(class_of(TALL, 0, "r"), (0, 1, 0, 0))
        self.assertEqual(class_of(TALL, 1, "r"), (0, 1, 0, 0))
        self.assertEqual(class_of(TALL, 0, "l"), (0, -1, 0, 0))
        self.assertEqual(class_of(TALL, 0, "uu"), (0, 0, 1, 1))
        self.assertEqual(class_of(TALL, 1, "urdr"), (0, 2, 0, 0))

    def test_differs_as_told(self):
        for world in fewer_worlds():
            turns = [turn_counts(world, index) for index in range(len(corners(world)))]
            ties = tie_sides(world)
            for square, walk in round_walks(world, 5):
                told = class_of(world, square, walk)
                count = count_of(world, square, walk)
                self.assertEqual({told[side] for side in ties} | {0}, {0})
                self.assertEqual(added(told, self.combined(turns, told, count)), count)

    def combined(self, turns, told, count):
        """Whole multiples of turning about corners that lead from told to
        count, as far as there are such, found corner by corner."""
        times = {0: 0}
        while len(times) < len(turns):
            for side in range(len(told)):
                ends = [k for k in range(len(turns)) if turns[k][side] != 0]
                open_ends = [k for k in ends if k not in times]
                if len(open_ends) == 1:
                    known = sum(times[k] * turns[k][side] for k in ends if k in times)
                    k = open_ends[0]
                    times[k] = (count[side] - told[side] - known) * turns[k][side]
        total = (0,) * len(told)
        for k, turn in enumerate(turns):
            total = added(total, turn, times[k])
        return total

    def test_turning_on_the_way_leaves_it(self):
        for world in fewer_worlds():
            turns = [len(corner) for corner in corners(world)]
            for k, (square, walk) in enumerate(round_walks(world, 5)):
                told = class_of(world, square, walk)
                for place in (0, len(walk) // 2, len(walk)):
                    here = walked(world, square, walk[:place])
                    about = ("ruld", "urdl")[k % 2]
                    # "urdl" turns about the same corner the other way.
                    about = about * turns[corner_at(world, here)]
                    longer = walk[:place] + about + walk[place:]
                    self.assertEqual(class_of(world, square, longer), told)

    def test_begun_elsewhere(self):
        for world in fewer_worlds():
            for square, walk in round_walks(world, 4):
                for place in range(len(walk)):
                    here = walked(world, square, walk[:place])
                    told = class_of(world, here, walk[place:] + walk[:place])
                    self.assertEqual(told, class_of(world, square, walk))

    def test_sums(self):
        for world in fewer_worlds():
            walks = class_walks(world)
            for one in walks:
                for other in walks:
                    total = added(class_of(world, 0, one), class_of(world, 0, other))
                    self.assertEqual(class_of(world, 0, one + other), total)

    def test_not_round(self):
        for world, square, walk in (
            (LESSON, 0, "r"), (LESSON, 0, "ru"), (TALL, 1, "u"), (FIELD, 2, "ruldr"),
            (LESSON, 0, "r" * 399),
        ):
            self.assertNotEqual(walked(world, square, walk), square)
            self.assertRaises(NotRound, class_of, world, square, walk)

    def test_wrong_walks(self):
        for square in (0, 1, 2):
            self.check_places(BAD_WALKS, lambda walk: class_of(LESSON, square, walk))

    def test_not_word_ahead_of_not_round(self):
        self.check_places([("rx", 1), ("r" * 401, 400)], lambda walk: class_of(LESSON, 0, walk))


class TestCrossing(WalkCase):
    def test_by_hand(self):
        self.assertEqual(crossing(ONE_SQUARE, 0, "r", 0, "u"), 1)
        self.assertEqual(crossing(ONE_SQUARE, 0, "u", 0, "r"), -1)
        self.assertEqual(crossing(ONE_SQUARE, 0, "rrru", 0, "rruuu"), 7)
        self.assertEqual(crossing(FIELD, 0, "rr", 3, "uu"), 1)
        self.assertEqual(crossing(FIELD, 0, "rr", 2, "rr"), 0)
        self.assertEqual(crossing(FIELD, 0, "ruld", 0, "uu"), 0)
        self.assertEqual(crossing(LESSON, 0, "rr", 1, "u"), 1)
        self.assertEqual(crossing(LESSON, 0, "rr", 0, "uu"), 1)
        self.assertEqual(crossing(LESSON, 2, "r", 1, "u"), 0)
        self.assertEqual(crossing(LESSON, 2, "r", 0, "uu"), 1)

    def test_as_told(self):
        for world in fewer_worlds():
            n = len(world[0])
            right, up = world
            for one, other in zip(round_walks(world, 4), round_walks(world, 4, 50)):
                count, far = count_of(world, *one), count_of(world, *other)
                told = sum(
                    count[s] * far[n + up.index(s)] - count[n + s] * far[right.index(s)]
                    for s in range(n)
                )
                self.assertEqual(crossing(world, *one, *other), told)

    def test_sign(self):
        for world in fewer_worlds():
            walks = round_walks(world, 5)
            for one in walks:
                self.assertEqual(crossing(world, *one, *one), 0)
                for other in walks:
                    told = crossing(world, *one, *other)
                    self.assertEqual(crossing(world, *other, *one), -told)

    def test_sums(self):
        for world in fewer_worlds():
            walks = class_walks(world)
            for square, walk in round_walks(world, 3):
                told = [crossing(world, 0, near, square, walk) for near in walks]
                both = crossing(world, 0, walks[0] + walks[1], square, walk)
                self.assertEqual(both, told[0] + told[1])
                both = crossing(world, square, walk, 0, walks[-1] + walks[0])
                self.assertEqual(both, -told[-1] - told[0])

    def test_the_same_in_a_class(self):
        for world in fewer_worlds():
            turns = [len(corner) for corner in corners(world)]
            for one, other in zip(round_walks(world, 4), round_walks(world, 4, 90)):
                square, walk = one
                about = "ruld" * turns[corner_at(world, square)]
                told = crossing(world, *one, *other)
                self.assertEqual(crossing(world, square, about + walk, *other), told)
                self.assertEqual(crossing(world, *other, square, walk + about), -told)
                for index, corner in enumerate(corners(world)):
                    about = "ruld" * len(corner)
                    self.assertEqual(crossing(world, corner[0], about, *other), 0)

    def test_sequence_of_errors(self):
        self.check_places(BAD_WALKS, lambda walk: crossing(LESSON, 0, walk, 0, "x" * 7))
        self.check_places(BAD_WALKS, lambda walk: crossing(LESSON, 0, walk, 0, "r"))
        self.check_places(BAD_WALKS, lambda walk: crossing(LESSON, 1, "u", 0, walk))
        for far in (None, "x", "r", "rr"):
            self.assertRaises(NotRound, crossing, LESSON, 0, "r", 0, far)
        self.assertRaises(NotRound, crossing, LESSON, 0, "rr", 0, "r")


class TestClassWalks(unittest.TestCase):
    def test_walks(self):
        for world in mixed_worlds():
            walks = class_walks(world)
            self.assertEqual(len(walks), 2 * holes(world))
            for walk in walks:
                self.assertIsInstance(walk, str)
                self.assertLessEqual(len(walk), 400)
                self.assertEqual(walked(world, 0, walk), 0)

    def test_determinant(self):
        for world in mixed_worlds():
            walks = class_walks(world)
            table = [[crossing(world, 0, one, 0, other) for other in walks] for one in walks]
            self.assertEqual(determinant(table), 1)

    def test_each_class_is_a_sum_in_one_way(self):
        for world in mixed_worlds():
            walks = class_walks(world)
            classes = [class_of(world, 0, walk) for walk in walks]
            table = [[crossing(world, 0, one, 0, other) for other in walks] for one in walks]
            for square, walk in round_walks(world, 4):
                goal = [crossing(world, square, walk, 0, other) for other in walks]
                times = solved(table, goal)
                self.assertTrue(all(number.denominator == 1 for number in times))
                total = (0,) * len(classes[0])
                for number, told in zip(times, classes):
                    total = added(total, told, number)
                self.assertEqual(total, class_of(world, square, walk))


class TestWalkBehind(WalkCase):
    letters = {
        "a": ("r", "ru", "l", "dl"),
        "A": ("r", "lu", "l", "dr"),
        "b": ("ur", "u", "ld", "d"),
        "B": ("dr", "u", "lu", "d"),
        "c": ("d", "r", "u", "l"),
        "C": ("u", "l", "d", "r"),
    }

    def test_each_letter(self):
        for word, told in self.letters.items():
            for walk, behind in zip("ruld", told):
                self.assertEqual(walk_behind(walk, word), behind)
            self.assertEqual(walk_behind("ruldd", word), "".join(told) + told[3])
            self.assertEqual(walk_behind("", word), "")

    def test_words(self):
        self.assertEqual(walk_behind("ruld", ""), "ruld")
        self.assertEqual(walk_behind("u", "ab"), "uru")
        self.assertEqual(walk_behind("u", "ba"), "ru")
        self.assertEqual(walk_behind("r", "cc"), "l")
        self.assertEqual(walk_behind("ru", "cA"), "drr")
        walk = some_word("ruld", 9, 3)
        for word in ("abc", "ABcC", "bAbA"):
            there = walk
            for letter in word:
                there = walk_behind(there, letter)
            self.assertEqual(walk_behind(walk, word), there)

    def test_leads_to_where_it_led(self):
        for world in fewer_worlds():
            for k in range(6):
                walk, word = some_word("ruld", 6, k), some_word("abcABC", k, 60 + k)
                behind = walk_behind(walk, word)
                for square in range(len(world[0])):
                    told = walked(done(world, word), square, behind)
                    self.assertEqual(told, walked(world, square, walk))

    def test_steps(self):
        for k in range(40):
            walk, word = some_word("ruld", 8, k), some_word("abcABC", k % 6, 70 + k)
            (a, b), (c, d) = matrix(word)
            x, y = self.step(walk)
            self.assertEqual(self.step(walk_behind(walk, word)), (a * x + b * y, c * x + d * y))

    def step(self, walk):
        return (walk.count("r") - walk.count("l"), walk.count("u") - walk.count("d"))

    def test_crossings_stay(self):
        for world in fewer_worlds():
            walks = class_walks(world)
            for word in ("a", "B", "c", "abA", "Cb"):
                beyond = done(world, word)
                for one in walks:
                    for other in walks:
                        told = crossing(beyond, 0, walk_behind(one, word), 0, walk_behind(other, word))
                        self.assertEqual(told, crossing(world, 0, one, 0, other))

    def check_too_long(self, walk, word):
        with self.assertRaises(TooLong) as caught:
            walk_behind(walk, word)
        self.assertEqual(caught.exception.limit, 400)

    def test_too_long(self):
        for letter, step in (("a", "u"), ("A", "d"), ("b", "l"), ("B", "r")):
            walk = walk_behind(step * 200, letter)
            self.assertEqual(walk, walk_behind(step, letter) * 200)
            self.assertEqual(len(walk), 400)
            self.check_too_long(step * 201, letter)
            self.check_too_long(step * 400, letter)
            # Behind letters that leave it as long.
            self.assertEqual(len(walk_behind(step * 200, "cc" + letter + "CC")), 400)
            self.check_too_long(step * 201, "cccc" + letter)
        self.assertEqual(walk_behind("r" * 400, "a" * 400), "r" * 400)
        self.assertEqual(walk_behind("u" * 400, "c"), "r" * 400)
        # "u", "ru", "uru", "ruruu": as long as the numbers of the golden rule.
        self.assertEqual(len(walk_behind("u", "abababababa")), 144 + 89)
        self.assertEqual(len(walk_behind("u", "ababababab")), 144)
        self.assertEqual(len(walk_behind("u", "abababababa")), 233)
        self.assertEqual(len(walk_behind("u", "abababababab")), 377)
        self.check_too_long("u", "ababababababa")
        self.check_too_long("u", "ab" * 200)
        # Undone at once, and yet too long on the way.
        self.check_too_long("u" * 201, "aA")
        self.check_too_long("u" * 250 + "r" * 100, "ca" + "A" * 398)

    def test_sequence_of_errors(self):
        self.check_places(BAD_WALKS, lambda walk: walk_behind(walk, "ab?"))
        self.check_places(BAD_WALKS, lambda walk: walk_behind(walk, None))
        self.check_places(BAD_WALKS, lambda walk: walk_behind(walk, "a"))
        self.check_places(BAD_WORDS, lambda word: walk_behind("rul", word))
        self.check_places(BAD_WORDS, lambda word: walk_behind("", word))
        self.check_places([("ax", 1), ("aa1", 2)], lambda word: walk_behind("u" * 400, word))


if __name__ == "__main__":
    unittest.main()
