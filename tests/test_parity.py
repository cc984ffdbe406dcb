"""[53], [54]: turnings of plain round walks, and parities."""

import unittest

from sample import (
    BAD_WALKS,
    GREATER_WORLDS,
    LESSON,
    ONE_SQUARE,
    mixed,
    mixed_worlds,
    round_walks,
    solved,
)
from squareworlds.classes import class_walks, crossing
from squareworlds.corners import corners, holes, kind
from squareworlds.deeds import done
from squareworlds.errors import NotKind, NotPlain, NotRound, NotWord
from squareworlds.halfturns import half_turns, is_twofold, stays
from squareworlds.lists import all_lots
from squareworlds.parity import parity, turning
from squareworlds.walks import walked
from squareworlds.worlds import renamed

FIELD = ((1, 0, 3, 2), (2, 3, 0, 1))
ROW = ((1, 2, 3, 0), (0, 1, 2, 3))
UNDOING = {"r": "l", "l": "r", "u": "d", "d": "u"}
# Eight squares about a corner of turn 2.
ABOUT_TWO = ((1, 0, 3, 2, 5, 4, 7, 6), (2, 3, 0, 4, 6, 7, 1, 5))
# Twofold worlds of the kind (3, 3), by whether the half turn leaves the great
# corners where they are.
LEAVING = (
    ((0, 2, 1, 3, 5, 4), (1, 2, 3, 4, 0, 5)),
    ((0, 1, 3, 2, 4, 6, 5), (1, 2, 4, 5, 6, 3, 0)),
)
CHANGING = (
    ((0, 2, 1, 4, 3, 5), (1, 0, 3, 2, 5, 4)),
    ((0, 1, 3, 2, 5, 4, 6), (1, 2, 0, 4, 3, 6, 5)),
)


def is_odd(world):
    return all(turn % 2 == 1 for turn in kind(world))


def plain_walks(world, most):
    """All plain round walks of at most so many letters."""
    found = []
    todo = [(square, square, "", (square,)) for square in range(len(world[0]))]
    for first, here, walk, met in todo:
        for letter in "ruld":
            if walk and UNDOING[letter] == walk[-1]:
                continue
            near = walked(world, here, letter)
            if near == first and not (walk and UNDOING[letter] == walk[0]):
                found.append((first, walk + letter))
            elif near not in met and len(walk) + 1 < most:
                todo.append((first, near, walk + letter, met + (near,)))
    return found


class TestTurning(unittest.TestCase):
    def test_by_hand(self):
        for letter in "ruld":
            self.assertEqual(turning(ONE_SQUARE, 0, letter), 0)
        for square in range(4):
            self.assertEqual(turning(FIELD, square, "ruld"), 1)
            self.assertEqual(turning(FIELD, square, "uldr"), 1)
            self.assertEqual(turning(FIELD, square, "urdl"), -1)
            self.assertEqual(turning(FIELD, square, "rr"), 0)
            self.assertEqual(turning(FIELD, square, "dd"), 0)
            self.assertEqual(turning(FIELD, square, "ruru"), 0)
            self.assertEqual(turning(ROW, square, "rrrr"), 0)
            self.assertEqual(turning(ROW, square, "d"), 0)
        self.assertEqual(turning(LESSON, 2, "r"), 0)
        self.assertEqual(turning(LESSON, 0, "rr"), 0)

    def test_letters_beside_one_another(self):
        for world in mixed_worlds()[::4]:
            for square, walk in plain_walks(world, 6):
                sums = {"ru": 1, "ul": 1, "ld": 1, "dr": 1, "rd": -1, "dl": -1, "lu": -1, "ur": -1}
                told = sum(sums.get(a + b, 0) for a, b in zip(walk, walk[1:] + walk[0]))
                self.assertEqual(told % 4, 0)
                self.assertEqual(turning(world, square, walk), told // 4)

    def test_as_many_turns_to_both_sides(self):
        squares = range(8)
        right = tuple((s + 1) % 8 for s in squares)
        for up, walks in (
            (tuple((s - 1) % 8 for s in squares), ("rdrdrdrd", "lulululu")),
            (right, ("urururur", "dldldldl")),
        ):
            for walk in walks:
                for square in squares:
                    self.assertEqual(turning((right, up), square, walk), 0)
                    self.assertEqual(turning((right, up), square, walk[::-1]), 0)

    def test_from_each_square_and_backward(self):
        for world in mixed_worlds()[::4]:
            for square, walk in plain_walks(world, 5):
                told = turning(world, square, walk)
                for place in range(len(walk)):
                    here = walked(world, square, walk[:place])
                    self.assertEqual(turning(world, here, walk[place:] + walk[:place]), told)
                back = "".join(UNDOING[letter] for letter in reversed(walk))
                self.assertEqual(turning(world, square, back), -told)

    def test_about_corners(self):
        met = set()
        for world in mixed_worlds() + [ABOUT_TWO]:
            for corner in corners(world):
                turn = len(corner)
                squares = [walked(world, corner[0], ("ruld" * turn)[:k]) for k in range(4 * turn)]
                if len(set(squares)) == 4 * turn:
                    met.add(turn)
                    self.assertEqual(turning(world, corner[0], "ruld" * turn), turn)
                    self.assertEqual(turning(world, corner[0], "urdl" * turn), -turn)
                else:
                    self.assertRaises(NotPlain, turning, world, corner[0], "ruld" * turn)
        self.assertEqual(met, {1, 2})

    def test_not_plain(self):
        for world, square, walk in (
            (ONE_SQUARE, 0, ""), (FIELD, 0, ""), (FIELD, 0, "rl"), (FIELD, 0, "ud"),
            (ONE_SQUARE, 0, "rr"), (ONE_SQUARE, 0, "ru"), (ONE_SQUARE, 0, "rl"), (FIELD, 0, "rrrr"),
            (FIELD, 0, "ruldruld"), (FIELD, 0, "rruu"), (FIELD, 0, "rrdd"), (ROW, 0, "rrrrrrrr"),
            (ROW, 0, "rurrr"), (ROW, 0, "rrlrrr"), (LESSON, 0, "rur"), (FIELD, 0, "rudl"),
            (FIELD, 0, "rulldr"),
        ):
            with self.subTest(world=world, walk=walk):
                self.assertEqual(walked(world, square, walk), square)
                self.assertRaises(NotPlain, turning, world, square, walk)

    def test_turning_back(self):
        # No square is met twice, but the last letter undoes the first one.
        self.assertRaises(NotPlain, turning, ((1, 0), (0, 1)), 0, "rl")
        self.assertRaises(NotPlain, turning, ((1, 0), (0, 1)), 1, "lr")
        self.assertEqual(turning(((1, 0), (0, 1)), 0, "rr"), 0)
        self.assertRaises(NotPlain, turning, ((1, 0), (1, 0)), 0, "du")
        self.assertEqual(turning(((1, 0), (1, 0)), 0, "ru"), 0)

    def test_sequence_of_errors(self):
        for value, place in BAD_WALKS:
            for square in (0, 2):
                with self.assertRaises(NotWord) as caught:
                    turning(LESSON, square, value)
                self.assertEqual(caught.exception.place, place)
        for walk in ("rrlrr", "r", "rlr", "ruldr", "r" * 399):
            self.assertRaises(NotRound, turning, FIELD, 0, walk)
        for walk in ("r" * 400, "rl" * 200, "", "rrrr"):
            self.assertRaises(NotPlain, turning, FIELD, 0, walk)

    def test_plain_ones_alone(self):
        for world in mixed_worlds()[::3]:
            for square, walk in round_walks(world, 6):
                met = [walked(world, square, walk[:k]) for k in range(len(walk))]
                pairs = zip(walk, walk[1:] + walk[:1])
                turns_back = any(UNDOING[a] == b for a, b in pairs)
                if walk and len(set(met)) == len(met) and not turns_back:
                    turning(world, square, walk)
                else:
                    self.assertRaises(NotPlain, turning, world, square, walk)


class TestParity(unittest.TestCase):
    def test_by_hand(self):
        # Right, up and both together: each of them is 1, and the class 0 is 0.
        self.assertEqual(parity(ONE_SQUARE), 1)
        self.assertEqual(parity(LESSON), 1)
        self.assertEqual(parity(FIELD), 1)

    def test_kinds(self):
        met = set()
        for world in mixed_worlds() + GREATER_WORLDS + [*LEAVING, *CHANGING]:
            if kind(world) in ((), (3,)):
                self.assertEqual(parity(world), 1)
            if kind(world) == (5,):
                self.assertEqual(parity(world), 0 if is_twofold(world) else 1)
            if kind(world) == (3, 3):
                self.assertEqual(parity(world), 0 if self.changes_corners(world) else 1)
            if is_odd(world):
                met.add((kind(world), parity(world)))
                self.assertEqual(parity(renamed(world, mixed(len(world[0]), 8))), parity(world))
        for turns in ((5,), (3, 3)):
            self.assertLessEqual({(turns, 0), (turns, 1)}, met)

    def changes_corners(self, world):
        """Whether a half turn makes the world twofold and leaves no great
        corner where it is."""
        great = {k for k, corner in enumerate(corners(world)) if len(corner) > 1}
        squares = tuple(range(len(world[0])))
        for h in half_turns(world):
            told = stays(world, h)
            if tuple(h[s] for s in h) == squares and sum(map(len, told)) == 2 * holes(world) + 2:
                return not great & set(told[3])
        return False

    def test_great_corners_left_and_changed(self):
        for table, changes in ((LEAVING, False), (CHANGING, True)):
            for world in table:
                self.assertEqual((kind(world), is_twofold(world)), ((3, 3), True))
                self.assertIs(self.changes_corners(world), changes)
                self.assertEqual(parity(world), 0 if changes else 1)

    def test_as_told(self):
        for world in mixed_worlds() + GREATER_WORLDS:
            if is_odd(world) and len(world[0]) < 7:
                self.check_numbers(world)

    def check_numbers(self, world):
        """Give numbers to the classes by plain walks, in so far as there are
        such, and by sums, and compare how often 0 is given."""
        walks = class_walks(world)
        table = [[crossing(world, 0, one, 0, other) for other in walks] for one in walks]
        numbers = {(0,) * len(walks): 0}
        for square, walk in plain_walks(world, len(world[0])):
            goal = [crossing(world, square, walk, 0, other) for other in walks]
            told = tuple(int(number) % 2 for number in solved(table, goal))
            number = (turning(world, square, walk) + 1) % 2
            self.assertEqual(numbers.setdefault(told, number), number)
            if len(numbers) < 2 ** len(walks):
                for other, far in list(numbers.items()):
                    both = tuple((a + b) % 2 for a, b in zip(told, other))
                    numbers.setdefault(both, (number + far + self.crossed(table, told, other)) % 2)
        h = holes(world)
        self.assertEqual(len(numbers), 4 ** h)
        for one, number in numbers.items():
            for other, far in list(numbers.items())[::5]:
                both = tuple((a + b) % 2 for a, b in zip(one, other))
                self.assertEqual(
                    numbers[both], (number + far + self.crossed(table, one, other)) % 2
                )
        zeros = list(numbers.values()).count(0)
        more = 2 ** (h - 1) * (2 ** h + (-1) ** parity(world))
        self.assertEqual(zeros, more)

    def crossed(self, table, one, other):
        return sum(
            a * b * table[j][k] for j, a in enumerate(one) for k, b in enumerate(other)
        )

    def test_lots(self):
        for n in (1, 2, 3, 4, 5):
            for forms in all_lots(n):
                if is_odd(forms[0]):
                    self.assertEqual(len({parity(form) for form in forms}), 1)
        for world in GREATER_WORLDS:
            if is_odd(world):
                for word in ("a", "b", "c", "aBBac"):
                    self.assertEqual(parity(done(world, word)), parity(world))

    def test_even_turns(self):
        met = set()
        for world in mixed_worlds() + GREATER_WORLDS:
            if not is_odd(world):
                met.add(kind(world))
                self.assertRaises(NotKind, parity, world)
        self.assertLessEqual({(2, 2), (3, 2, 2), (4, 2), (6, 2), (4, 4), (2, 2, 2, 2)}, met)


if __name__ == "__main__":
    unittest.main()
