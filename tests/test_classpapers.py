"""[49]: papers on round walks of one class, and of two."""

import unittest

from sample import LESSON, ONE_SQUARE, mixed_worlds, round_walks
from squareworlds.classes import class_of, count_of, crossing
from squareworlds.classpapers import check_class_paper, class_paper
from squareworlds.corners import corner_at, corners, corners_of
from squareworlds.errors import NotPaper, NotRound, NotWord
from squareworlds.walks import walked

TALL = ((0, 1), (1, 0))
# Right of square 0 and of square 1 of TALL: two walks of one class. The corner
# 1 lies between them, and corner 0 on their other sides.
PAIR = (TALL, 0, "r", 1, "r")
APART = (LESSON, 0, "rr", 0, "uu")

# What is neither a pair of "corners" and a tuple nor "walk", a square, a string.
NO_PAPERS = [
    None, True, 0, 1.5, "", "corners", "walk", b"walk", (), [], {}, {"corners": ()},
    ("corners",), ("walk",), ("corners", None), ("corners", 0), ("corners", True),
    ("corners", "00"), ("corners", [0, -1]), ("corners", {0: 0, 1: -1}), ["corners", (0, -1)],
    ("corners", (0, -1), ()), ("corners", 0, -1), ("corner", (0, -1)), ("Corners", (0, -1)),
    ((0, -1), "corners"), (("corners",), (0, -1)), (None, (0, -1)), (0, -1), ((0, -1),),
    (b"corners", (0, -1)), ("walk", (0, -1)), ("walk", 0), ("walk", "uu"), ("walk", 0, None),
    ("walk", 0, 0), ("walk", 0, ("u", "u")), ("walk", 0, ["u", "u"]), ("walk", 0, b"uu"),
    ("walk", None, "uu"), ("walk", "0", "uu"), ("walk", True, "uu"), ("walk", False, "uu"),
    ("walk", 0.0, "uu"), ("walk", -1, "uu"), ("walk", 3, "uu"), ("walk", 10 ** 30, "uu"),
    ("walk", (0,), "uu"), ("walk", [0], "uu"), ["walk", 0, "uu"], ("walk", 0, "uu", 0),
    ("walk", "uu", 0), ("walks", 0, "uu"), ("Walk", 0, "uu"), ("corners", 0, "uu"),
    (0, "walk", "uu"), (("walk",), 0, "uu"), ("walk", 0, {}), ("map", (0, -1)), ("word", "uu"),
]


def some_pairs():
    for world in mixed_worlds()[::3]:
        for one, other in zip(round_walks(world, 4), round_walks(world, 4, 40)):
            yield (world, *one, *other)
        turns = [len(corner) for corner in corners(world)]
        for k, (square, walk) in enumerate(round_walks(world, 3)):
            # The same walk begun elsewhere, with turning about corners on the way.
            place = len(walk) // 2
            here = walked(world, square, walk[:place])
            longer = "ruld" * turns[corner_at(world, here)] * k + walk[place:] + walk[:place]
            yield (world, square, walk, here, longer)


class PaperCase(unittest.TestCase):
    def refuse(self, pair, paper, word):
        with self.subTest(pair=pair, paper=str(paper)[:100]):
            with self.assertRaises(NotPaper) as caught:
                check_class_paper(*pair, paper)
            self.assertEqual(caught.exception.word, word)


class TestClassPaper(PaperCase):
    def test_by_hand(self):
        word, numbers = class_paper(*PAIR)
        self.assertEqual((word, numbers[0] - numbers[1]), ("corners", 1))
        self.assertEqual(class_paper(ONE_SQUARE, 0, "ru", 0, "ur")[0], "corners")
        self.assertEqual(class_paper(*APART)[0], "walk")
        self.assertEqual(class_paper(ONE_SQUARE, 0, "r", 0, "")[0], "walk")
        self.assertEqual(class_paper(LESSON, 0, "rr", 1, "ll")[0], "walk")

    def test_papers_hold(self):
        met = set()
        for world, square, walk, far_square, far_walk in some_pairs():
            paper = class_paper(world, square, walk, far_square, far_walk)
            alike = class_of(world, square, walk) == class_of(world, far_square, far_walk)
            met.add(alike)
            self.assertIsInstance(paper, tuple)
            self.assertEqual(paper[0], "corners" if alike else "walk")
            told = check_class_paper(world, square, walk, far_square, far_walk, paper)
            self.assertIs(told, alike)
            if alike:
                one = count_of(world, square, walk)
                other = count_of(world, far_square, far_walk)
                self.assertEqual(len(paper[1]), len(corners(world)))
                self.assertEqual(self.turned(world, other, paper[1]), one)
            else:
                _, s, near = paper
                self.assertEqual(walked(world, s, near), s)
                self.assertNotEqual(
                    crossing(world, square, walk, s, near),
                    crossing(world, far_square, far_walk, s, near),
                )
        self.assertEqual(met, {True, False})

    def turned(self, world, count, numbers):
        """The count with turning about each corner so many times added."""
        n = len(world[0])
        told = list(count)
        for s in range(n):
            _, lower_right, upper_left, upper_right = corners_of(world, s)
            told[s] += numbers[upper_right] - numbers[lower_right]
            told[n + s] += numbers[upper_left] - numbers[upper_right]
        return tuple(told)

    def test_errors(self):
        self.check_errors(class_paper)

    def check_errors(self, call):
        for value, place in ((None, -1), ("x", 0), ("rrx", 2), ("r" * 401, 400), (["r"], -1)):
            for far in ("rr", "r", "x", None):
                with self.assertRaises(NotWord) as caught:
                    call(LESSON, 0, value, 0, far)
                self.assertEqual(caught.exception.place, place)
            with self.assertRaises(NotWord) as caught:
                call(LESSON, 0, "rr", 0, value)
            self.assertEqual(caught.exception.place, place)
        for far in ("rr", "r", "x", None):
            self.assertRaises(NotRound, call, LESSON, 0, "r", 0, far)
        self.assertRaises(NotRound, call, LESSON, 0, "rr", 0, "r")


class TestCheckClassPaper(PaperCase):
    def test_corners(self):
        # Turning once about all corners leads nowhere.
        for numbers in ((1, 0), (0, -1), (8, 7), (-10 ** 20, -10 ** 20 - 1)):
            self.assertIs(check_class_paper(*PAIR, ("corners", numbers)), True)
            self.assertIs(check_class_paper(paper=("corners", numbers), **self.named(PAIR)), True)
        self.assertIs(check_class_paper(LESSON, 0, "rr", 0, "llrrrr", ("corners", (0,))), True)
        self.assertIs(check_class_paper(LESSON, 0, "rr", 0, "rr", ("corners", (7,))), True)

    def named(self, pair):
        return dict(zip(("world", "square", "walk", "far_square", "far_walk"), pair))

    def test_no_corners(self):
        wrong = [
            (), (1,), (0,), (1, 0, 0), (1, 0, 1), (0, 0), (0, 1), (-1, 0), (2, 0), (1, -1),
            (True, 0), (1, False), (True, False), (1.0, 0), (1, 0.0), ("1", "0"), (None, None),
            (1, None), ((1,), (0,)), ((1, 0),), (1, [0]), ("corners", (1, 0)), (1, {}),
        ]
        for numbers in wrong:
            self.refuse(PAIR, ("corners", numbers), "corners")
        for numbers in ((0,), (1,), (0, 0), ()):
            self.refuse(APART, ("corners", numbers), "corners")

    def test_walks(self):
        for paper in (("walk", 1, "u"), ("walk", 0, "uu"), ("walk", 2, "dd"), ("walk", 0, "rr")):
            self.assertIs(check_class_paper(*APART, paper), False)
        self.assertIs(
            check_class_paper(ONE_SQUARE, 0, "r", 0, "", ("walk", 0, "u" * 400)), False
        )

    def test_no_walks(self):
        wrong = [
            (0, ""), (1, ""), (0, "r"), (0, "u"), (1, "r"), (0, "ruld"), (0, "rl"), (0, "ud"),
            (0, "x"), (0, "rrx"), (0, "uux"), (0, "UU"), (0, "u u"), (0, "a"), (0, "uu\n"),
            (0, "u" * 401), (0, "u" * 402), (0, "u" * 399 + "x"), (0, "u" * 400 + "x"),
            (0, "u" * 399), (1, "uuur"), (0, "ruldruldruld"),
        ]
        for square, walk in wrong:
            self.refuse(APART, ("walk", square, walk), "walk")
        # Walks of one class are crossed alike by all.
        for square, walk in ((0, "r"), (1, "r"), (0, "uu"), (1, "uuuu"), (0, "uru"), (0, "")):
            self.refuse(PAIR, ("walk", square, walk), "walk")

    def test_no_papers(self):
        for paper in NO_PAPERS:
            self.refuse(PAIR, paper, "form")
            self.refuse(APART, paper, "form")
        self.refuse(PAIR, ("walk", 2, "uu"), "form")

    def test_errors_of_crossing_go_first(self):
        for paper in (None, ("corners", (1, 0)), ("walk", 0, "x")):
            TestClassPaper.check_errors(self, lambda *values: check_class_paper(*values, paper))


if __name__ == "__main__":
    unittest.main()
