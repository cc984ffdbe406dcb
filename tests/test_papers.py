"""[40], [41]: papers on lots and on covers."""

import unittest

from sample import (
    GREAT,
    LESSON,
    NEARLY_TOO_GREAT,
    ONE_SQUARE,
    TOO_GREAT,
    mixed,
    mixed_worlds,
    some_worlds,
)
from squareworlds.covers import maps
from squareworlds.deeds import done
from squareworlds.errors import NotPaper, TooMany
from squareworlds.lists import all_lots
from squareworlds.lots import are_of_one_lot, lot
from squareworlds.papers import check_cover_paper, check_lot_paper, cover_paper, lot_paper
from squareworlds.walks import flat, walked
from squareworlds.worlds import are_alike, least_form, renamed

TALL = ((0, 1), (1, 0))
LONG = ((1, 0), (0, 1))
ROW = ((1, 2, 3, 0), (0, 1, 2, 3))
FIELD = ((1, 0, 3, 2), (2, 3, 0, 1))
LESSON_LOT = lot(LESSON)
STEPS = ((1, 2, 0), (1, 2, 0))

# What is neither a pair of a word and a string nor one of a word and a tuple.
NO_PAPERS = [
    None, True, 0, 1.5, "", "word", "lot", b"word", (), [], {}, {"word": "a"}, {"word", "a"},
    ("word",), ("lot",), ("map",), ("walks",), ("", ""), ("", ()), (None, None),
    (0, ""), (True, ()), ("word", None), ("word", 0), ("word", ()), ("word", ("a",)),
    ("word", ["a"]), ("word", b"a"), ("word", "a", "b"), ("word", "a", ()), (("word", "a"),),
    ["word", "a"], ["lot", ()], ("lot", ""), ("lot", None), ("lot", []), ("lot", {}),
    ("lot", {(): ()}), ("lot", (), ()), ("words", "a"), ("Word", "a"), ("a", "word"),
    (b"word", "a"), (["word"], "a"), (("word",), "a"), ("lots", ()), ((), "lot"),
    ("map", None), ("map", ""), ("map", "01"), ("map", [0, 1, 0, 1]), ["map", (0, 1, 0, 1)],
    ("map", (0, 1, 0, 1), ()), ("Map", (0, 1, 0, 1)), ("walk", ("u", "u")), ("walks", "uu"),
    ("walks", ["u", "u"]), ["walks", ("u", "u")], ("walks", {"u": "u"}), ("walks", ("u", "u"), 1),
    (("u", "u"), "walks"), ({}, ("u", "u")),
]


def some_pairs():
    worlds = [world for world in mixed_worlds() if len(world[0]) < 6][::3]
    return [(one, other) for one in worlds for other in worlds]


class PaperCase(unittest.TestCase):
    def check_word(self, check, one, other, paper, word):
        with self.subTest(one=one, other=other, paper=str(paper)[:200]):
            with self.assertRaises(NotPaper) as caught:
                check(one, other, paper)
            self.assertEqual(caught.exception.word, word)


class TestLotPaper(unittest.TestCase):
    def test_by_hand(self):
        self.assertEqual(lot_paper(LESSON, ONE_SQUARE), ("lot", LESSON_LOT))
        self.assertEqual(lot_paper(ONE_SQUARE, ONE_SQUARE), ("word", ""))
        self.assertEqual(lot_paper(TALL, FIELD), ("lot", lot(TALL)))
        word, told = lot_paper(TALL, LONG)
        self.assertEqual(word, "word")
        self.assertTrue(are_alike(done(TALL, told), LONG))

    def test_papers_hold(self):
        for one, other in some_pairs():
            paper = lot_paper(one, other)
            self.assertEqual(type(paper), tuple)
            inside = are_of_one_lot(one, other)
            self.assertEqual(paper[0], "word" if inside else "lot")
            self.assertIs(check_lot_paper(one, other, paper), inside)
            if inside:
                self.assertLess(len(paper[1]), len(lot(one)))

    def test_worlds_of_one_lot(self):
        for n in (3, 4, 5):
            for forms in all_lots(n):
                for form in forms:
                    paper = lot_paper(forms[-1], renamed(form, mixed(n, 6)))
                    self.assertLess(len(paper[1]), len(forms))
                    self.assertIs(check_lot_paper(forms[-1], form, paper), True)

    def test_the_greatest_lot(self):
        forms = lot(NEARLY_TOO_GREAT)
        paper = lot_paper(NEARLY_TOO_GREAT, ONE_SQUARE)
        self.assertEqual(paper, ("lot", forms))
        self.assertIs(check_lot_paper(NEARLY_TOO_GREAT, ONE_SQUARE, paper), False)
        paper = lot_paper(NEARLY_TOO_GREAT, forms[-1])
        self.assertIs(check_lot_paper(NEARLY_TOO_GREAT, forms[-1], paper), True)

    def test_too_many(self):
        for one in (GREAT, TOO_GREAT):
            for other in (one, done(one, "a"), ONE_SQUARE, LESSON, FIELD, NEARLY_TOO_GREAT):
                with self.assertRaises(TooMany) as caught:
                    lot_paper(one, other)
                self.assertEqual(caught.exception.limit, 500)
                self.assertEqual(lot_paper(LESSON, one), ("lot", LESSON_LOT))


class TestCheckLotPaper(PaperCase):
    def refuse(self, one, other, paper, word):
        self.check_word(check_lot_paper, one, other, paper, word)

    def test_words(self):
        self.assertIs(check_lot_paper(TALL, LONG, ("word", "c")), True)
        self.assertIs(check_lot_paper(TALL, LONG, ("word", "BA")), True)
        self.assertIs(check_lot_paper(TALL, TALL, ("word", "")), True)
        self.assertIs(check_lot_paper(GREAT, done(GREAT, "abC"), ("word", "abC")), True)
        self.assertIs(check_lot_paper(LESSON, renamed(LESSON, (2, 0, 1)), ("word", "c")), True)

    def test_no_words_or_others(self):
        for told in ("", "a", "cc", "abc", "d", "BAx", " c", "c ", "C\n", "word", "1", "\u0441"):
            self.refuse(TALL, LONG, ("word", told), "word")
        self.refuse(TALL, FIELD, ("word", ""), "word")
        self.refuse(LESSON, ONE_SQUARE, ("word", ""), "word")
        self.refuse(ONE_SQUARE, LESSON, ("word", "ab"), "word")

    def test_four_hundred_letters(self):
        self.assertIs(check_lot_paper(TALL, LONG, ("word", "aA" * 199 + "BA")), True)
        self.refuse(TALL, LONG, ("word", "aA" * 199 + "aBA"), "word")
        self.assertIs(check_lot_paper(LESSON, LESSON, ("word", "c" * 400)), True)
        self.refuse(LESSON, LESSON, ("word", "c" * 401), "word")
        self.refuse(LESSON, LESSON, ("word", "c" * 400 + "cccc"), "word")
        self.refuse(LESSON, LESSON, ("word", "c" * 399 + "x"), "word")

    def test_lots(self):
        self.assertIs(check_lot_paper(LESSON, TALL, ("lot", LESSON_LOT)), False)
        self.assertIs(check_lot_paper(LESSON, GREAT, ("lot", LESSON_LOT)), False)
        # Further lots may stand in it.
        both = tuple(sorted(LESSON_LOT + lot(TALL)))
        self.assertIs(check_lot_paper(LESSON, FIELD, ("lot", both)), False)
        self.assertIs(check_lot_paper(TALL, FIELD, ("lot", both)), False)
        self.refuse(TALL, LESSON, ("lot", both), "lot")
        self.refuse(LESSON, TALL, ("lot", both), "lot")

    def test_no_lots(self):
        first, second, third = LESSON_LOT
        wrong = [
            (),
            (first,),
            (first, second),
            (first, third),
            (second, third),
            (first, third, second),
            (third, second, first),
            (first, second, second, third),
            (first, second, third, third),
            (first, second, third, LESSON),
            (LESSON,) + LESSON_LOT,
            tuple(sorted((LESSON,) + LESSON_LOT)),
            (first, second, least_form(LESSON) + ((),)),
            (first, second, list(third)),
            (first, second, (list(third[0]), third[1])),
            (first, second, third, None),
            (None, first, second, third),
            (first, second, third, 7),
            (first, second, third, "third"),
            (first, second, third, ()),
            (first, second, third, ((), ())),
            (first, second, third, ((1, 0), (0, 1))),
            (first, second, third, ((2, 0, 1), (2, 0, 2))),
            (first, second, third, ((2, 0, 1, 3), (2, 0, 1, 3))),
            (first, second, third, {"right": 1}),
            (first, second, ((True, 2, 0), (0, 2, 1))),
            (first, second, ((1, 2, False), (False, 2, 1))),
            (((False, 2, 1), (1, 0, 2)), second, third),
            (((0, 2, 1), (1, 0, 2.0)), second, third),
            (first, second, third) * 2,
            lot(TALL),
            ("lot", LESSON_LOT),
        ]
        for told in wrong:
            self.refuse(LESSON, ONE_SQUARE, ("lot", told), "lot")

    def test_the_other_one_among_them(self):
        for form in LESSON_LOT:
            self.refuse(LESSON, form, ("lot", LESSON_LOT), "lot")
            self.refuse(form, LESSON, ("lot", LESSON_LOT), "lot")

    def test_five_hundred_entries(self):
        # Lots of 480, 18, 1 and 1 worlds, and one of 3.
        eighteen = [forms for forms in all_lots(5) if len(forms) == 18][0]
        many = lot(NEARLY_TOO_GREAT) + eighteen + (ONE_SQUARE,)
        told = tuple(sorted(many + (least_form(FIELD),)))
        self.assertEqual(len(told), 500)
        self.assertIs(check_lot_paper(NEARLY_TOO_GREAT, LESSON, ("lot", told)), False)
        self.assertIs(check_lot_paper(ONE_SQUARE, TALL, ("lot", told)), False)
        told = tuple(sorted(lot(NEARLY_TOO_GREAT) + eighteen + lot(LESSON)))
        self.assertEqual(len(told), 501)
        self.refuse(NEARLY_TOO_GREAT, TALL, ("lot", told), "form")
        self.refuse(LESSON, TALL, ("lot", (None,) * 500), "lot")
        self.refuse(LESSON, TALL, ("lot", (None,) * 501), "form")
        self.refuse(LESSON, TALL, ("lot", (LESSON,) * 10000), "form")

    def test_no_papers(self):
        for paper in NO_PAPERS + [("map", (0,)), ("walks", ("u",))]:
            self.refuse(LESSON, ONE_SQUARE, paper, "form")
            self.refuse(TALL, LONG, paper, "form")


class TestCoverPaper(unittest.TestCase):
    def test_by_hand(self):
        self.assertEqual(cover_paper(LESSON, ONE_SQUARE), ("map", (0, 0, 0)))
        self.assertIn(cover_paper(ROW, LONG), [("map", f) for f in maps(ROW, LONG)])
        self.assertEqual(cover_paper(ROW, TALL)[0], "walks")

    def test_papers_hold(self):
        for one, other in some_pairs():
            self.check_holds(one, other)

    def test_papers_on_greater_worlds(self):
        for one in some_worlds(8, 12):
            for other in some_worlds(8, 12) + some_worlds(7, 12) + [ROW, STEPS, TALL]:
                self.check_holds(one, other)
                self.check_holds(other, one)

    def check_holds(self, one, other):
        paper = cover_paper(one, other)
        covers = maps(one, other) != ()
        self.assertEqual(type(paper), tuple)
        self.assertEqual(paper[0], "map" if covers else "walks")
        self.assertIs(check_cover_paper(one, other, paper), covers)
        if covers:
            self.assertIn(paper[1], maps(one, other))
            return
        self.assertEqual(len(paper[1]), len(other[0]))
        for t, walk in enumerate(paper[1]):
            self.assertEqual(walked(one, 0, walk), 0)
            self.assertNotEqual(walked(other, t, walk), t)


class TestCheckCoverPaper(PaperCase):
    def refuse(self, one, other, paper, word):
        self.check_word(check_cover_paper, one, other, paper, word)

    def test_maps(self):
        for f in maps(ROW, LONG):
            self.assertIs(check_cover_paper(ROW, LONG, ("map", f)), True)
        self.assertIs(check_cover_paper(GREAT, GREAT, ("map", (0, 1, 2, 3, 4, 5, 6))), True)

    def test_no_maps(self):
        wrong = [
            (), (0,), (0, 1), (0, 1, 0), (0, 1, 0, 1, 0), (0, 0, 0, 0), (0, 0, 1, 1), (1, 1, 0, 0),
            (0, 1, 0, 0), (0, True, 0, True), (0, 1, 0, True), (False, 1, 0, 1), (0, 1.0, 0, 1),
            (0, "1", 0, 1), (0, None, 0, 1), (0, (1,), 0, 1), ((0, 1, 0, 1),), (0, [1], 0, 1),
            (0, 1, 0, -1), (0, 1, 0, 3), (2, 3, 2, 3), (0, 1, 0, 10 ** 30), ("u", "u"),
            ((0, 1, 0, 1), (1, 0, 1, 0)),
        ]
        for told in wrong:
            self.refuse(ROW, LONG, ("map", told), "map")
        self.refuse(ROW, TALL, ("map", (0, 1, 0, 1)), "map")
        self.refuse(ONE_SQUARE, TALL, ("map", (0,)), "map")

    def test_walks(self):
        for walks in (("u", "u"), ("uuu", "rdl"), ("d", "u"), ("llllu", "urrrr")):
            self.assertIs(check_cover_paper(ROW, TALL, ("walks", walks)), False)
        # The walk with the index t is begun at the square t.
        self.assertIs(check_cover_paper(LESSON, STEPS, ("walks", ("rr",) * 3)), False)
        self.assertIs(check_cover_paper(STEPS, LESSON, ("walks", ("rd", "rd", "rd"))), False)
        other = ((1, 0, 2, 3), (0, 2, 3, 1))
        self.assertIs(check_cover_paper(ONE_SQUARE, other, ("walks", ("r", "u", "d", "u"))), False)
        for walks in (("u", "u", "d", "u"), ("r", "u", "r", "u"), ("r", "u", "d", "r")):
            self.refuse(ONE_SQUARE, other, ("walks", walks), "walks")

    def test_no_walks(self):
        wrong = [
            (), ("u",), ("u", "u", "u"), ("", "u"), ("u", ""), ("r", "u"), ("u", "r"),
            ("uu", "u"), ("u", "rrrr"), ("u", "uuuu"), ("u", "l"), ("u", "ur"), (None, "u"),
            ("u", None), ("u", 0), ("u", True), ("u", ("u",)), ("u", ["u"]), ("u", b"u"),
            (("u", "u"), ("u", "u")), ("u", "U"), ("u", "x"), ("u", "ua"), ("u", "u "),
            ("u", "u" * 401), ("u", "u" * 399 + "x"), ("u", {}), (0, 1), (0, 1, 0, 1),
        ]
        for told in wrong:
            self.refuse(ROW, TALL, ("walks", told), "walks")
        # Where there is a map, none hold.
        for told in (("u", "u"), ("rrrr", "rrrr"), ("r", "r"), ("", "")):
            self.refuse(ROW, LONG, ("walks", told), "walks")

    def test_four_hundred_letters(self):
        many = "u" * 399 + "r"
        self.assertIs(check_cover_paper(ONE_SQUARE, TALL, ("walks", (many, "u"))), False)
        self.refuse(ONE_SQUARE, TALL, ("walks", (many + "r", "u")), "walks")
        self.refuse(ONE_SQUARE, TALL, ("walks", ("u", "u" * 401)), "walks")

    def test_no_papers(self):
        for paper in NO_PAPERS + [("word", ""), ("word", "a"), ("lot", ()), ("lot", LESSON_LOT)]:
            self.refuse(ROW, LONG, paper, "form")
            self.refuse(ROW, TALL, paper, "form")

    def test_flat_worlds(self):
        for one in ((4, 1, 1), (2, 0, 2), (4, 2, 2)):
            for other in ((2, 0, 1), (2, 1, 1), (1, 0, 2)):
                paper = cover_paper(flat(*one), flat(*other))
                covers = maps(flat(*one), flat(*other)) != ()
                self.assertIs(check_cover_paper(flat(*one), flat(*other), paper), covers)


if __name__ == "__main__":
    unittest.main()
