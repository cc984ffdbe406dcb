"""[42]: sheets of worlds and claims."""

import unittest

from sample import GREAT, LESSON, mixed_worlds
from squareworlds.corners import kind
from squareworlds.covers import maps
from squareworlds.deeds import done
from squareworlds.errors import NotSheet, TooMany
from squareworlds.halfturns import is_twofold
from squareworlds.lots import are_of_one_lot
from squareworlds.rooms import rooms
from squareworlds.sheets import judged
from squareworlds.texts import written
from squareworlds.worlds import are_alike, renamed

# Of the kind of GREAT, but with a lot of 32 instead of 768.
LITTLE = ((0, 1, 3, 2, 4, 6, 5), (1, 2, 0, 4, 5, 3, 6))

WORLDS = [
    "world one 0 / 0",
    "world f 1 0 2 / 2 1 0",
    "world g 0 2 1 / 1 0 2",
    "world long 1 0 / 0 1",
    "world tall 0 1 / 1 0",
    "world row 1 2 3 0 / 0 1 2 3",
    "world unturned 0 2 1 4 3 / 1 2 3 0 4",
]
CLAIMS = [
    ("alike f g", True),
    ("alike g f", True),
    ("alike f f", True),
    ("alike f one", False),
    ("alike long tall", False),
    ("kind f 3", True),
    ("kind f", False),
    ("kind f 3 3", False),
    ("kind f 3 1", False),
    ("kind f 2", False),
    ("kind one", True),
    ("kind one 1", False),
    ("kind one 0", False),
    ("kind unturned 5", True),
    ("lot f g", True),
    ("lot long tall", True),
    ("lot f tall", False),
    ("lot f row", False),
    ("covers f one", True),
    ("covers one f", False),
    ("covers row long", True),
    ("covers row tall", False),
    ("covers f f", True),
    ("back f c", True),
    ("back f aa", True),
    ("back f a", False),
    ("back tall a", True),
    ("back long a", False),
    ("back one abcABC", True),
    ("twofold f", True),
    ("twofold one", True),
    ("twofold unturned", False),
    ("rooms f 2", True),
    ("rooms f 1", False),
    ("rooms f 0", False),
    ("rooms f 999", False),
    ("rooms row 1", True),
]

WRONG_LINES = [
    "", " ", "  ", "\t", "\r", "a", "claim", "0 / 0", "1", "claim a", "#",
    "world", "world ", "world a", "world a ", "world  0 / 0", "world  a 0 / 0", " world a 0 / 0",
    "world a  0 / 0", "world a 0 / 0 ", "world a 0 / 0\r", "world a 0  / 0", "world a\t0 / 0",
    "world A 0 / 0", "world aB 0 / 0", "world a1 0 / 0", "world a_b 0 / 0", "world a- 0 / 0",
    "world \u00e4 0 / 0", "world \u0430 0 / 0", "world ninesigns 0 / 0", "world 0 / 0",
    "world a b 0 / 0", "world a 0/0", "world a 0 /", "world a 0", "world a / 0", "world a 1 / 0",
    "world a 0 / 1", "world a 0 1 / 0 1", "world a 0 0 / 1 0", "world a 1 0 2 / 2 1",
    "world a 00 / 0", "world a ((0,), (0,))", "World a 0 / 0", "WORLD a 0 / 0", "worlds a 0 / 0",
    "alike", "alike ", "alike a", "alike a ", "alike  a", "alike a  a", "alike a a ", " alike a a",
    "alike a a a", "alike A a", "alike a A", "alike a 1", "alike ninesigns a", "alike a ninesigns",
    "Alike a a", "alikes a a", "alike a a\r", "alike\ta a", "alike a,a",
    "kind", "kind ", "kind  a", "kind a ", "kind A", "kind a1", "kind 3", "kind 3 a", "kind a b",
    "kind a x", "kind a 3x", "kind a 3 ", "kind a  3", "kind a 3  3", "kind a 3 b", "kind a 03", "kind a 00", "kind a 000",
    "kind a 1000", "kind a 3 1000", "kind a 0999", "kind a -1", "kind a -0", "kind a +3",
    "kind a 3.0", "kind a 3,", "kind a (3,)", "kind a 0x3", "kind a 1_0", "kind a \u0663",
    "kind a \u00b2", "kind a \uff13", "kind a 3\r", "kind a 3\x0b", "kind a\u20283", "Kind a",
    "kind ninesigns", "kind a True", "kind a " + "9" * 400,
    "lot", "lot a", "lot a a a", "lot a ", "lot  a a", "lot a A", "lot A a", "Lot a a", "lot a 1",
    "covers", "covers a", "covers a a a", "covers a ", "covers A a", "covers a 0", "cover a a",
    "back", "back a", "back a ", "back  a", "back a x", "back a d", "back a ab c", "back a ab ",
    "back a  ab", "back A a", "back a abx", "back ab", "back a " + "a" * 401, "back a A-",
    "back a " + "a" * 399 + "x", "back a 1", "back a ab\r", "Back a a",
    "twofold", "twofold ", "twofold a a", "twofold a ", "twofold A", "twofold 1", "twofold  a",
    "twofold a 1", "twofolds a",
    "rooms", "rooms a", "rooms a ", "rooms a 1 1", "rooms a 01", "rooms a 00", "rooms a a",
    "rooms 1 a", "rooms a -1", "rooms a 1000", "rooms A 1", "rooms a 1 ", "rooms  a 1",
    "rooms a  1", "room a 1", "rooms a \u0661",
]


class TestJudged(unittest.TestCase):
    def test_by_hand(self):
        text = "\n".join(WORLDS + [claim for claim, _ in CLAIMS])
        told = judged(text)
        self.assertEqual(told, tuple(so for _, so in CLAIMS))
        self.assertTrue(all(so is True or so is False for so in told))

    def test_one_by_one(self):
        for claim, so in CLAIMS:
            with self.subTest(claim):
                self.assertEqual(judged("\n".join(WORLDS + [claim])), (so,))

    def test_no_lines_and_no_claims(self):
        self.assertEqual(judged(""), ())
        self.assertEqual(judged("world a 0 / 0"), ())
        self.assertEqual(judged("\n".join(WORLDS)), ())

    def test_no_worlds(self):
        self.assertEqual(judged("kind a\nalike a a\nback a c"), (False,) * 3)

    def test_against_the_functions(self):
        worlds = [world for world in mixed_worlds() if len(world[0]) < 6][::6]
        for one in worlds:
            for other in worlds + [renamed(one, tuple(reversed(range(len(one[0])))))]:
                turns = "".join(f" {turn}" for turn in kind(other))
                text = (
                    f"world f {written(one)}\nworld g {written(other)}\nalike f g\nlot f g\n"
                    f"covers f g\nkind f{turns}\nback f abb\ntwofold f\nrooms f {len(rooms(other))}"
                )
                told = (
                    are_alike(one, other),
                    are_of_one_lot(one, other),
                    maps(one, other) != (),
                    kind(one) == kind(other),
                    are_alike(done(one, "abb"), one),
                    is_twofold(one),
                    len(rooms(one)) == len(rooms(other)),
                )
                self.assertEqual(judged(text), told)

    def test_the_last_line_with_a_name_counts(self):
        lines = ["world a 0 / 0", "world b 1 0 2 / 2 1 0", "world a 1 0 / 0 1"]
        claims = ["alike a a", "covers a a", "kind a", "rooms a 1", "back a a", "alike a b"]
        told = judged("\n".join(lines + claims))
        self.assertEqual(told, (True, True, True, True, False, False))
        told = judged("\n".join(lines + ["world a 1 0 2 / 2 1 0"] + claims))
        self.assertEqual(told, (True, True, False, False, False, True))

    def test_names_of_no_world(self):
        for claim in (
            "alike a x", "alike x a", "alike x x", "kind x", "kind x 3", "lot a x", "lot x a",
            "lot x x", "covers a x", "covers x a", "back x a", "back x c", "twofold x",
            "rooms x 1", "rooms x 0",
        ):
            self.assertEqual(judged("world a 0 / 0\n" + claim + "\nkind a"), (False, True))

    def test_names(self):
        for name in ("a", "z", "abcdefgh", "world", "kind", "alike", "lot", "rooms", "back"):
            self.assertEqual(judged(f"world {name} 0 / 0\nkind {name}"), (True,))

    def test_numbers_and_words(self):
        for claim in ("kind a 0", "kind a 999", "rooms a 0", "rooms a 10", "kind a" + " 7" * 1000):
            self.assertEqual(judged("world a 0 / 0\n" + claim), (False,))
        for word in ("a", "A", "a" * 400, "abcABC" * 66 + "abca"):
            self.assertEqual(judged("world a 0 / 0\nback a " + word), (True,))


class TestNotSheet(unittest.TestCase):
    def check_line(self, text, line):
        with self.subTest(text):
            with self.assertRaises(NotSheet) as caught:
                judged(text)
            self.assertEqual(caught.exception.line, line)

    def test_each_wrong_line(self):
        for wrong in WRONG_LINES:
            if wrong:
                self.check_line(wrong, 0)
            self.check_line("world a 0 / 0\n" + wrong, 1)
            self.check_line("world a 0 / 0\nkind a\n" + wrong, 2)
            self.check_line("world a 0 / 0\n" + wrong + "\nkind a", 1)
            self.check_line("world a 0 / 0\n" + wrong + "\n\nkind", 1)

    def test_line_feeds(self):
        self.check_line("\n", 0)
        self.check_line("\n\n", 0)
        self.check_line("\nworld a 0 / 0", 0)
        self.check_line("world a 0 / 0\n", 1)
        self.check_line("world a 0 / 0\nkind a\n", 2)
        self.check_line("world a 0 / 0\n\nkind a", 1)
        self.check_line("world a 0 / 0\r\nkind a", 0)
        self.check_line("world a 0 / 0\rkind a", 0)
        self.check_line("world a 0 / 0\nkind a\rkind a", 1)
        self.check_line("world a 0 / 0\nkind a\x0ckind a", 1)

    def test_worlds_behind_claims(self):
        self.check_line("kind a\nworld a 0 / 0", 1)
        self.check_line("world a 0 / 0\nkind a\nworld b 0 / 0", 2)
        self.check_line("world a 0 / 0\nkind a\nkind a\nworld a 0 / 0\nnone", 3)


class TestTooMany(unittest.TestCase):
    lines = f"world big {written(GREAT)}\nworld less {written(LITTLE)}\nworld f {written(LESSON)}\n"

    def check_too_many(self, claims):
        with self.assertRaises(TooMany) as caught:
            judged(self.lines + claims)
        self.assertEqual(caught.exception.limit, 500)

    def test_great_lots(self):
        self.check_too_many("lot big big")
        self.check_too_many("lot big less")
        self.check_too_many("kind f 3\nlot f f\nlot big big\nkind f 3")

    def test_where_it_is_not_needed(self):
        self.assertEqual(judged(self.lines + "lot less big"), (False,))
        self.assertEqual(judged(self.lines + "lot big f\nlot f big"), (False, False))
        self.assertEqual(judged(self.lines + "lot big x\nlot x big"), (False, False))
        self.assertEqual(judged(self.lines + "alike big big\ncovers big big"), (True, True))

    def test_wrong_lines_go_first(self):
        for wrong in ("none", "", "world a 0 / 0", "kind a 01", "back f x"):
            with self.assertRaises(NotSheet) as caught:
                judged(self.lines + "lot big big\n" + wrong)
            self.assertEqual(caught.exception.line, 4)


if __name__ == "__main__":
    unittest.main()
