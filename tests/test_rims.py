"""[65], [66]: rims and figures."""

import unittest

from sample import (
    GREATER_WORLDS,
    LESSON,
    ONE_SQUARE,
    all_worlds,
    mixed,
    mixed_worlds,
    some_worlds,
)
from squareworlds.corners import corners, corners_of, kind
from squareworlds.errors import NotFigure, NotKind
from squareworlds.lists import worlds
from squareworlds.listings import undone
from squareworlds.rims import figure, figure_breach, rims, world_of
from squareworlds.rooms import room_sizes, rooms
from squareworlds.straights import chords
from squareworlds.walks import flat
from squareworlds.worlds import least_form, renamed

# Three squares in a row with one above the first; two with two above the first.
HOOK = ((1, 2, 0, 3), (3, 1, 2, 0))
TOWER = ((1, 0, 2, 3), (2, 1, 3, 0))
HOOK_RIMS = (((0, 1), (1, 2)), ((2,), (0,)))
HOOK_FIGURE = (HOOK_RIMS, (1, 2, 1), (1, 1), (1, 0))
PLAIN_FIGURE = ((((0,), (0,)),), (1,), (1,), (0,))
HUGE = 10 ** 400


def worlds_with_great_corners():
    found = mixed_worlds() + GREATER_WORLDS + all_worlds(4)[::11] + some_worlds(8, 40)
    return [world for world in found if kind(world) != ()]


def great_squares(world):
    """The squares whose lower left corner is great."""
    turns = [len(corner) for corner in corners(world)]
    return [s for s in range(len(world[0])) if turns[corners_of(world, s)[0]] > 1]


def from_left(world, square):
    """The squares of a row, from one on to the right."""
    row = [square]
    while world[0][row[-1]] != square:
        row.append(world[0][row[-1]])
    return row


def told_otherwise(told, seed):
    """The figure with chords and rooms in another sequence, and rims begun with
    other chords, the twists led along."""
    rims_told, lengths, heights, twists = told
    names = mixed(len(lengths), seed)
    sequence = mixed(len(heights), seed + 1)
    pairs, twists_led = [], []
    for room in sequence:
        lower, upper = rims_told[room]
        at = seed % len(lower)
        far_at = (seed + 1) % len(upper)
        width = sum(lengths[chord] for chord in lower)
        twist = twists[room] - sum(lengths[chord] for chord in lower[:at])
        twist += sum(lengths[chord] for chord in upper[:far_at])
        twists_led.append(twist % width)
        both = (lower[at:] + lower[:at], upper[far_at:] + upper[:far_at])
        pairs.append(tuple(tuple(names[chord] for chord in rim) for rim in both))
    renumbered = tuple(lengths[chord] for chord in undone(names))
    return (tuple(pairs), renumbered, tuple(heights[room] for room in sequence), tuple(twists_led))


class TestRims(unittest.TestCase):
    def test_by_hand(self):
        self.assertEqual(rims(LESSON), (((0, 1), (1, 2)), ((2,), (0,))))
        self.assertEqual(rims(HOOK), (((0, 1), (1, 3)), ((3,), (0,))))
        self.assertEqual(rims(TOWER), (((0, 1), (1, 2)), ((2,), (0,))))

    def test_room_by_room(self):
        for world in worlds_with_great_corners():
            down = undone(world[1])
            great = great_squares(world)
            told = rims(world)
            self.assertEqual(len(told), len(rooms(world)))
            for room, (lower, upper) in zip(rooms(world), told):
                self.assertEqual(sorted(lower), [s for s in great if s in room[0]])
                self.assertEqual(sorted(upper), [s for s in great if down[s] in room[-1]])
                # From left to right, begun with the least one.
                row = from_left(world, lower[0])
                self.assertEqual(list(lower), [s for s in row if s in lower])
                row = [world[1][s] for s in from_left(world, down[upper[0]])]
                self.assertEqual(list(upper), [s for s in row if s in upper])
                self.assertEqual((lower[0], upper[0]), (min(lower), min(upper)))

    def test_each_chord_is_in_two_rims(self):
        for world in worlds_with_great_corners():
            great = great_squares(world)
            for side in (0, 1):
                self.assertEqual(sorted(sum((pair[side] for pair in rims(world)), ())), great)

    def test_no_great_corner(self):
        for world in [ONE_SQUARE, flat(3, 1, 2), flat(8, 3, 1)]:
            for function in (rims, figure):
                with self.assertRaises(NotKind):
                    function(world)


class TestFigure(unittest.TestCase):
    def test_by_hand(self):
        self.assertEqual(figure(LESSON), (HOOK_RIMS, (1, 1, 1), (1, 1), (1, 0)))
        self.assertEqual(figure(HOOK), HOOK_FIGURE)
        self.assertEqual(figure(TOWER), (HOOK_RIMS, (1, 1, 1), (1, 2), (1, 0)))
        # The squares 0 and 2 as a row, above them 3 and 1, and 4 above 3 alone.
        world = ((2, 3, 0, 1, 4), (3, 2, 1, 4, 0))
        self.assertEqual(rooms(world), (((0, 2), (1, 3)), ((4,),)))
        self.assertEqual(rims(world), (((0, 2), (2, 4)), ((4,), (0,))))
        self.assertEqual(figure(world), (HOOK_RIMS, (1, 1, 1), (2, 1), (1, 0)))

    def test_lengths_heights_and_twists(self):
        for world in worlds_with_great_corners():
            right, up = world
            great = great_squares(world)
            told, lengths, heights, twists = figure(world)
            self.assertEqual(
                tuple(tuple(tuple(great[chord] for chord in rim) for rim in pair) for pair in told),
                rims(world),
            )
            self.assertEqual(tuple(sorted(lengths)), chords(world, 1, 0))
            for chord, length in zip(great, lengths):
                row = from_left(world, chord)
                self.assertEqual([s for s in row + row if s in great][1], (row + row)[length])
            sizes = []
            for (lower, upper), height, twist in zip(rims(world), heights, twists):
                there = lower[0]
                for _ in range(height):
                    below, there = there, up[there]
                row = from_left(world, below)
                self.assertLess(twist, len(row))
                self.assertEqual(up[row[twist]], upper[0])
                sizes.append((len(row), height))
            self.assertEqual(tuple(sorted(sizes)), room_sizes(world))


class TestWorldOf(unittest.TestCase):
    def test_by_hand(self):
        self.assertEqual(world_of(PLAIN_FIGURE), ONE_SQUARE)
        self.assertEqual(world_of(HOOK_FIGURE), least_form(HOOK))
        self.assertEqual(world_of((HOOK_RIMS, (1, 1, 1), (1, 2), (1, 0))), least_form(TOWER))
        # Above the row of the squares 0, 1, 2 those of 2 and 3, 0 and 1 go on.
        self.assertEqual(
            world_of(((((0, 1), (1, 0)),), (1, 2), (1,), (2,))),
            least_form(((1, 2, 0), (2, 0, 1))),
        )
        self.assertEqual(
            world_of(((((0, 1, 2), (2, 1, 0)),), (1, 1, 1), (1,), (0,))),
            least_form(((1, 2, 0), (2, 1, 0))),
        )

    def test_runs_of_rows(self):
        for d in range(1, 9):
            for a in range(1, 8 // d + 1):
                for b in range(a):
                    told = ((((0,), (0,)),), (a,), (d,), (b,))
                    self.assertEqual(world_of(told), flat(a, b, d))
                    rows = tuple(((k,), ((k + 1) % d,)) for k in range(d))
                    told = (rows, (a,) * d, (1,) * d, (b,) + (0,) * (d - 1))
                    self.assertEqual(world_of(told), flat(a, b, d))

    def test_all_worlds_of_few_squares(self):
        for n in range(1, 6):
            for world in worlds(n):
                if kind(world) != ():
                    self.assertEqual(world_of(figure(world)), world)

    def test_greater_worlds(self):
        for world in worlds_with_great_corners():
            self.assertIsNone(figure_breach(figure(world)))
            self.assertEqual(world_of(figure(world)), least_form(world))
            anew = renamed(world, mixed(len(world[0]), 11))
            self.assertEqual(world_of(figure(anew)), least_form(world))

    def test_figures_told_otherwise(self):
        for world in worlds_with_great_corners()[::2]:
            for seed in range(6):
                told = told_otherwise(figure(world), seed)
                self.assertIsNone(figure_breach(told))
                self.assertEqual(world_of(told), least_form(world))


class TestBreach(unittest.TestCase):
    def check(self, value, word):
        with self.subTest(value=repr(value)[:200]):
            self.assertEqual(figure_breach(value), word)
            if word is None:
                world_of(value)
            else:
                with self.assertRaises(NotFigure) as caught:
                    world_of(value)
                self.assertEqual(caught.exception.word, word)

    def changed(self, **parts):
        """The figure of HOOK with other parts."""
        names = ("rims", "lengths", "heights", "twists")
        return tuple(parts.get(name, part) for name, part in zip(names, HOOK_FIGURE))

    def test_none(self):
        for value in (HOOK_FIGURE, PLAIN_FIGURE, figure(LESSON)):
            self.check(value, None)
        self.check(self.changed(heights=(2, 2)), None)
        self.check(self.changed(heights=(1, 5)), None)
        self.check(self.changed(twists=(2, 0)), None)
        self.check(self.changed(lengths=(1, 6, 1)), None)
        self.check((((tuple(range(8)),) * 2,), (1,) * 8, (1,), (7,)), None)

    def test_no_figure_at_all(self):
        values = [
            None, 0, True, "form", b"", (), [], {}, object(), (1, 2, 3, 4), "abcd",
            list(HOOK_FIGURE), HOOK_FIGURE[:3], HOOK_FIGURE + ((),), (HOOK_FIGURE,),
            ((), (), (), ()), ((((), ()),), (), (1,), (0,)), ((), (1,), (), ()),
            ({}, (), (), ()), (None, None, None, None),
        ]
        for value in values:
            self.check(value, "form")

    def test_wrong_rims(self):
        (lower, upper), pair = HOOK_RIMS
        values = [
            None, 3, "01", (), [*HOOK_RIMS], {}, (pair,), HOOK_RIMS + (pair,), HOOK_RIMS + ((),),
            ([lower, upper], pair), ((lower, upper), list(pair)), ((lower,), pair),
            ((lower, upper, ()), pair), (lower + upper, pair), ("ab", pair), (None, pair),
            (([0, 1], upper), pair), ((lower, [1, 2]), pair), ((lower, upper), ([2], (0,))),
            ((lower, upper), ((2,), [0])), (("01", upper), pair), ((0, upper), pair),
            # Empty ones, chords left out, told twice, out of range.
            ((lower, (1, 2, 0)), ((2,), ())), (((0, 1, 2), upper), ((), (0,))),
            (((0, 1), (1, 2)), ((2,), ())), (((0,), upper), pair), ((lower, (1,)), pair),
            (((0, 0), upper), pair), (((0, 1, 2), upper), pair), ((lower, upper), ((1,), (0,))),
            ((lower, upper), ((2,), (1,))), ((lower, upper), ((2, 2), (0,))),
            (((0, 1, 1), upper), pair), ((lower, (1, 2, 2)), pair), (((0, 3), upper), pair),
            ((lower, (1, 3)), pair), (((-1, 1), upper), pair), ((lower, (1, -1)), pair),
            (((0, HUGE), upper), pair), ((lower, (HUGE, 2)), pair),
            # What is no integer.
            (((0, True), upper), pair), ((lower, (True, 2)), pair), (((False, 1), upper), pair),
            ((lower, upper), ((2,), (False,))), ((lower, upper), ((2.0,), (0,))),
            (((0, None), upper), pair), ((lower, ((1,), 2)), pair), (((0, "1"), upper), pair),
            (((0, [1]), upper), pair),
        ]
        for value in values:
            self.check(self.changed(rims=value), "form")

    def test_wrong_numbers(self):
        for value in (
            None, 4, (), (1, 2), (1, 2, 1, 1), [1, 2, 1], "121", (1, 2, 0), (0, 3, 0), (1, -2, 1),
            (1, 2, True), (True, 2, 1), (1.0, 2, 1), (1, 2, None), (1, (2,), 1), (1, 2, -HUGE),
        ):
            self.check(self.changed(lengths=value), "form")
        for value in (
            None, 1, (), (1,), (1, 1, 1), [1, 1], "11", (1, 0), (0, 1), (-1, 1), (True, 1),
            (1, True), (1, 1.0), (None, 1), (1, (1,)), (1, -HUGE),
        ):
            self.check(self.changed(heights=value), "form")
        for value in (
            None, 1, (), (1,), (1, 0, 0), [1, 0], "10", (-1, 0), (1, -1), (True, 0), (1, False),
            (1, 0.0), (None, 0), (1, (0,)), (-HUGE, 0),
        ):
            self.check(self.changed(twists=value), "form")

    def test_widths(self):
        for lengths in ((1, 2, 2), (2, 2, 1), (2, 1, 1), (1, 1, 3), (1, HUGE, 2), (HUGE, 2, 1)):
            self.check(self.changed(lengths=lengths), "width")
        # As many chords, as many squares, but not room by room.
        two = (((0,), (1,)), ((1,), (0,)))
        self.check((two, (1, 1), (1, 1), (0, 0)), None)
        self.check((two, (1, 2), (1, 1), (0, 0)), "width")
        self.check(((((0, 1), (2,)), ((2,), (0, 1))), (1, 1, 2), (1, 1), (0, 0)), None)
        self.check(((((0, 1), (2,)), ((2,), (0, 1))), (1, 1, 1), (1, 1), (0, 0)), "width")

    def test_twists(self):
        for twists in ((3, 0), (4, 0), (1, 1), (HUGE, 0), (2, 1), (0, HUGE)):
            self.check(self.changed(twists=twists), "twist")
        self.check(((((0,), (0,)),), (8,), (1,), (7,)), None)
        self.check(((((0,), (0,)),), (8,), (1,), (8,)), "twist")

    def test_sizes(self):
        for heights in ((2, 3), (1, 6), (3, 1), (HUGE, 1), (1, HUGE), (HUGE, HUGE)):
            self.check(self.changed(heights=heights), "size")
        self.check(self.changed(lengths=(1, 7, 1)), "size")
        self.check(self.changed(lengths=(1, HUGE, 1)), "size")
        for width, height in ((8, 1), (4, 2), (2, 4), (1, 8)):
            self.check(((((0,), (0,)),), (width,), (height,), (0,)), None)
        for width, height in ((9, 1), (3, 3), (1, 9), (HUGE, 1)):
            self.check(((((0,), (0,)),), (width,), (height,), (0,)), "size")
        many = tuple(((k,), ((k + 1) % 9,)) for k in range(9))
        self.check((many, (1,) * 9, (1,) * 9, (0,) * 9), "size")

    def test_apart(self):
        plain = (((0,), (0,)), ((1,), (1,)))
        self.check((plain, (1, 1), (1, 1), (0, 0)), "apart")
        self.check((plain, (2, 3), (1, 2), (1, 2)), "apart")
        pairs = (((0,), (2,)), ((1,), (3,)), ((2,), (0,)), ((3,), (1,)))
        self.check((pairs, (1,) * 4, (1,) * 4, (0,) * 4), "apart")
        pairs = (((0,), (2,)), ((1,), (3,)), ((2,), (1,)), ((3,), (0,)))
        self.check((pairs, (1,) * 4, (1,) * 4, (0,) * 4), None)
        self.check((HOOK_RIMS + (((3,), (3,)),), (1, 2, 1, 1), (1, 1, 1), (1, 0, 0)), "apart")

    def test_the_first_word_counts(self):
        apart = (((0, 1), (1, 0)), ((2,), (2,)))
        self.check((apart, (1, 1, 1), (1, 1), (0, 0)), "apart")
        self.check((apart, (1, 1, 1), (1, 7), (0, 0)), "size")
        self.check((apart, (1, 1, 1), (1, 7), (0, 1)), "twist")
        crossed = (((0, 1), (1, 2)), ((2,), (0,)), ((3,), (3,)))
        self.check((crossed, (1, 1, 2, 9), (9, 9, 9), (9, 9, 9)), "width")
        self.check((crossed, (1, 1, 2, 9), (9, 9, 0), (9, 9, 9)), "form")
        self.check((crossed, (1, 1, 1, 9), (9, 9, 9), (9, 9, 9)), "twist")
        self.check((crossed, (1, 1, 1, 9), (9, 9, 9), (0, 0, 9)), "twist")
        self.check((crossed, (1, 1, 1, 9), (9, 9, 9), (0, 0, 8)), "size")
        self.check((crossed, (1, 1, 1, 1), (1, 1, 1), (0, 0, 0)), "apart")


if __name__ == "__main__":
    unittest.main()
