"""[5]: worlds as texts."""

import unittest

from sample import all_worlds, mixed_worlds
from squareworlds.errors import NotText
from squareworlds.texts import read_world, written

PLACES = [
    ("", 0),
    (" ", 0),
    ("/", 0),
    ("8", 0),
    ("9", 0),
    ("a", 0),
    ("-", 0),
    ("\u0661", 0),
    ("\n0 / 0", 0),
    ("0", 1),
    ("7", 1),
    ("00", 1),
    ("0/", 1),
    ("0\n", 1),
    ("0 ", 2),
    ("1 ", 2),
    ("10", 1),
    ("1 1", 2),
    ("1 /", 2),
    ("0  ", 2),
    ("1 2 /", 4),
    ("1 0 /", 5),
    ("1 0 /0", 5),
    ("1 0 / ", 6),
    ("1 0 /  ", 6),
    ("1 0 / 2", 6),
    ("1 0 / 0", 7),
    ("1 0 / 0 0", 8),
    ("1 0 / 0 1 ", 9),
    ("1 0 / 0 1\n", 9),
    ("1 0 / 0 1 2", 9),
    ("01 00 / 0 1", 1),
    ("0 / 0 / 0", 5),
    ("0 / 00", 5),
    ("0 / 1", 4),
    ("0 / a", 4),
    ("0 1 / 0 1", 6),
    ("1 0 2 / 1 0 2", 10),
    ("1 0 2 / 0 1 2", 10),
    ("1 0 3 2 / 1 0 3 2", 12),
    ("1 0 3 2 / 0 1 3 2", 12),
    ("0 1 2 3 / 1 0 3 2", 12),
    ("0 1 2 3 / 1 2 0 3", 14),
    ("0 1 2 3 4 5 6 7 8", 16),
    ("0 1 2 3 4 5 6 7 0", 16),
    ("0 1 2 3 4 5 6 7 ", 16),
    ("0 1 2 3 4 5 6 7 /", 17),
    ("0 1 2 3 4 5 6 7 / 7 6", 21),
    ("0 1 2 3 4 5 6 7 / 1 2 3 4 5 6 7 8", 32),
]


def place_of(text):
    try:
        read_world(text)
    except NotText as error:
        return error.place
    return None


class TestTexts(unittest.TestCase):
    def test_example(self):
        self.assertEqual(written(((1, 0, 2), (2, 1, 0))), "1 0 2 / 2 1 0")
        self.assertEqual(read_world("1 0 2 / 2 1 0"), ((1, 0, 2), (2, 1, 0)))
        self.assertEqual(written(((0,), (0,))), "0 / 0")

    def test_reading_what_was_written(self):
        for world in mixed_worlds():
            text = written(world)
            self.assertEqual(read_world(text), world)

    def test_places_by_hand(self):
        for text, place in PLACES:
            with self.subTest(text):
                self.assertEqual(place_of(text), place, text)
        self.assertEqual(place_of("0 1 / 1 0"), None)

    def test_signs_behind(self):
        for world in mixed_worlds():
            text = written(world)
            for more in (" ", "0", " 0", "/", "\n", " / ", "x" * 1000):
                self.assertEqual(place_of(text + more), len(text))

    def test_cut_off(self):
        for world in mixed_worlds():
            text = written(world)
            for place in range(len(text)):
                self.assertEqual(place_of(text[:place]), place)


class TestAgainstAllTexts(unittest.TestCase):
    """Texts of up to three squares against the beginnings of all texts."""

    def setUp(self):
        self.texts = {written(world) for n in (1, 2, 3) for world in all_worlds(n)}
        self.beginnings = {text[:k] for text in self.texts for k in range(len(text) + 1)}

    def is_beginning(self, text):
        if "/" in text:
            return text in self.beginnings
        # Any unlike entries from 0 to 7 may still stand for right.
        entries = [text[k:k + 1] for k in range(0, len(text), 2)]
        blanks = [text[k:k + 1] for k in range(1, len(text), 2)]
        return (
            all(entry in tuple("01234567") for entry in entries)
            and len(set(entries)) == len(entries)
            and all(blank == " " for blank in blanks)
            and (len(blanks) < 8)
        )

    def check(self, text):
        if text in self.texts:
            self.assertIsNone(place_of(text))
            return
        if "/" in text and text.index("/") > 6:
            return
        lengths = [k for k in range(len(text) + 1) if self.is_beginning(text[:k])]
        self.assertEqual(place_of(text), max(lengths), text)

    def test_one_sign_otherwise(self):
        for text in sorted(self.texts):
            for k in range(len(text)):
                for sign in "0123 /x":
                    self.check(text[:k] + sign + text[k + 1:])

    def test_one_sign_put_in(self):
        for text in sorted(self.texts):
            for k in range(len(text) + 1):
                for sign in "012 /x":
                    self.check(text[:k] + sign + text[k:])

    def test_one_sign_left_out(self):
        for text in sorted(self.texts):
            for k in range(len(text)):
                self.check(text[:k] + text[k + 1:])

    def test_one_or_two_signs(self):
        signs = "01789 /-+x\n"
        for one in signs:
            self.check(one)
            for other in signs:
                self.check(one + other)


if __name__ == "__main__":
    unittest.main()
