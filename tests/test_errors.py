"""[2]: the errors, the arguments by name, and the kinds of what is returned."""

import importlib
import inspect
import unittest

from sample import GREAT, LESSON, ONE_SQUARE, ROW, mixed_worlds
from squareworlds import books, errors
from squareworlds.classes import class_of
from squareworlds.covers import under
from squareworlds.deeds import done, word_of
from squareworlds.errors import NotKind, TooMany, WorldError
from squareworlds.halfturns import stays, whole_stays
from squareworlds.lots import lot
from squareworlds.papers import check_lot_paper
from squareworlds.parity import turning
from squareworlds.returns import return_listing
from squareworlds.rims import world_of
from squareworlds.sheets import judged
from squareworlds.texts import read_world
from squareworlds.twists import lowered
from squareworlds.worlds import check_world

# Two squares in a row with two above the first.
TOWER = ((1, 0, 2, 3), (2, 1, 3, 0))

ATTRIBUTES = {
    "NotWorld": ("rule", "place"),
    "NotText": ("place",),
    "NotWord": ("place",),
    "NotMatrix": (),
    "TooLong": ("limit",),
    "TooMany": ("limit",),
    "NotBlocks": (),
    "NotHalfTurn": (),
    "NotKind": (),
    "NotPaper": ("word",),
    "NotSheet": ("line",),
    "NotDone": (),
    "NotUndone": (),
    "NotRound": (),
    "NotBack": (),
    "NotPlain": (),
    "NotFigure": ("word",),
    "NotHigh": (),
}

TWO_WALKS = ("world", "square", "walk", "far_square", "far_walk")

# For each function of the interface: its arguments, and a call that is right.
INTERFACE = {
    "worlds": {
        "world_breach": (("value",), (LESSON,)),
        "check_world": (("value",), (LESSON,)),
        "renamed": (("world", "listing"), (LESSON, (2, 0, 1))),
        "met_from": (("world", "square"), (LESSON, 1)),
        "least_form": (("world",), (LESSON,)),
        "starts": (("world",), (LESSON,)),
        "are_alike": (("one", "other"), (LESSON, LESSON)),
    },
    "texts": {
        "written": (("world",), (LESSON,)),
        "read_world": (("text",), ("1 0 2 / 2 1 0",)),
    },
    "corners": {
        "around": (("world",), (LESSON,)),
        "corners": (("world",), (LESSON,)),
        "kind": (("world",), (LESSON,)),
        "holes": (("world",), (LESSON,)),
        "corner_at": (("world", "square"), (LESSON, 1)),
        "corners_of": (("world", "square"), (LESSON, 1)),
    },
    "deeds": {
        "done": (("world", "word"), (LESSON, "abc")),
        "matrix": (("word",), ("abc",)),
        "word_of": (("value",), (((1, 1), (0, 1)),)),
    },
    "lots": {
        "lot": (("world",), (LESSON,)),
        "lot_rows": (("world",), (LESSON,)),
        "are_of_one_lot": (("one", "other"), (LESSON, LESSON)),
        "way": (("one", "other"), (LESSON, LESSON)),
        "lengths_from": (("world",), (LESSON,)),
    },
    "backs": {
        "brings_back": (("world", "value"), (LESSON, ((1, 2), (0, 1)))),
        "back_time": (("world", "word"), (LESSON, "ab")),
        "widths": (("world",), (LESSON,)),
        "lot_shape": (("world",), (LESSON,)),
    },
    "rooms": {
        "rows_of": (("world",), (LESSON,)),
        "rooms": (("world",), (LESSON,)),
        "room_sizes": (("world",), (LESSON,)),
        "room_sizes_along": (("world", "direction"), (LESSON, (2, 1))),
        "seams": (("world", "direction"), (LESSON, (2, 1))),
        "directions_of": (("world", "many"), (LESSON, 3)),
    },
    "shares": {
        "share": (("world",), (LESSON,)),
        "mean_share": (("world",), (LESSON,)),
        "sum_of_rates": (("world",), (LESSON,)),
    },
    "covers": {
        "maps": (("one", "other"), (LESSON, ONE_SQUARE)),
        "moves": (("world",), (LESSON,)),
        "block_sets": (("world",), (LESSON,)),
        "under": (("world", "blocks"), (LESSON, ((0, 1, 2),))),
        "covered": (("world",), (LESSON,)),
        "is_prime": (("world",), (LESSON,)),
        "over_both": (("one", "other", "s", "t"), (LESSON, ONE_SQUARE, 1, 0)),
    },
    "walks": {
        "walked": (("world", "square", "walk"), (LESSON, 1, "ru")),
        "go_back": (("world", "walk"), (LESSON, "ru")),
        "lattice": (("world",), (LESSON,)),
        "is_tight": (("world",), (LESSON,)),
        "flat": (("a", "b", "d"), (3, 1, 2)),
        "flats": (("n",), (4,)),
    },
    "halfturns": {
        "half_turns": (("world",), (LESSON,)),
        "stays": (("world", "half_turn"), (LESSON, (0, 1, 2))),
        "is_twofold": (("world",), (LESSON,)),
        "whole_stays": (("world",), (LESSON,)),
    },
    "straights": {
        "crossed": (("world", "square", "p", "q"), (LESSON, 1, 3, 2)),
        "straight": (("world", "square", "p", "q"), (LESSON, 1, 3, 2)),
        "chords": (("world", "p", "q"), (LESSON, 3, 2)),
    },
    "numbers": {
        "all_parts": (("n",), (5,)),
        "class_size": (("parts",), ((3, 1),)),
        "character": (("shape", "turns"), ((3, 1), (2, 2))),
        "pair_count": (("turns",), ((3, 1),)),
        "joined_count": (("turns",), ((3, 1),)),
        "weight": (("turns",), ((3, 1),)),
        "row_count": (("rows", "turns"), ((4,), (3, 1))),
    },
    "lists": {
        "worlds": (("n",), (3,)),
        "worlds_of": (("turns",), ((3,),)),
        "all_lots": (("n",), (3,)),
        "kinds": (("n",), (5,)),
    },
    "papers": {
        "lot_paper": (("one", "other"), (LESSON, ONE_SQUARE)),
        "check_lot_paper": (("one", "other", "paper"), (LESSON, LESSON, ("word", "c"))),
        "cover_paper": (("one", "other"), (ONE_SQUARE, LESSON)),
        "check_cover_paper": (("one", "other", "paper"), (LESSON, LESSON, ("map", (0, 1, 2)))),
    },
    "sheets": {
        "judged": (("text",), ("world a 0 / 0\nkind a\nrooms a 2",)),
    },
    "classes": {
        "count_of": (("world", "square", "walk"), (LESSON, 1, "rud")),
        "tie_sides": (("world",), (LESSON,)),
        "class_of": (("world", "square", "walk"), (LESSON, 1, "rr")),
        "crossing": (TWO_WALKS, (LESSON, 1, "rr", 2, "uu")),
        "class_walks": (("world",), (LESSON,)),
        "walk_behind": (("walk", "word"), ("rul", "ab")),
    },
    "classpapers": {
        "class_paper": (TWO_WALKS, (LESSON, 1, "rr", 2, "uu")),
        "check_class_paper": (
            TWO_WALKS + ("paper",), (LESSON, 1, "rr", 1, "ll", ("walk", 1, "u"))
        ),
    },
    "returns": {
        "return_listing": (("world", "word"), (LESSON, "c")),
        "count_behind": (("world", "count", "word"), (LESSON, (1, 2, 0, -1, 0, 3), "ab")),
        "return_polynomial": (("world", "word"), (LESSON, "c")),
        "rest_polynomial": (("world", "word"), (LESSON, "c")),
        "trace_of": (("world", "word"), (LESSON, "c")),
    },
    "parity": {
        "turning": (("world", "square", "walk"), (LESSON, 1, "rr")),
        "parity": (("world",), (LESSON,)),
    },
    "pieces": {
        "pieces": (("world", "p", "q"), (LESSON, 3, 2)),
        "piece_rounds": (("world", "p", "q"), (LESSON, 3, 2)),
    },
    "groups": {
        "group_order": (("world",), (LESSON,)),
        "in_group": (("world", "value"), (LESSON, (2, 1, 0))),
        "still_order": (("world",), (LESSON,)),
        "is_normal": (("world",), (LESSON,)),
        "normal_cover": (("world",), (LESSON,)),
    },
    "slits": {
        "slit": (("one", "s", "other", "t"), (LESSON, 2, ONE_SQUARE, 0)),
    },
    "lengths": {
        "rooms_to": (("world", "most"), (LESSON, 20)),
        "field_to": (("world", "most"), (LESSON, 20)),
    },
    "ends": {
        "ends": (("world",), (LESSON,)),
        "end_of": (("world", "direction"), (LESSON, (-3, 2))),
        "back_words": (("world",), (LESSON,)),
    },
    "blocks": {
        "blocks_met": (("world", "one", "other"), (ROW, ((0, 2), (1, 3)), ((0, 1, 2, 3),))),
        "blocks_joined": (("world", "one", "other"), (ROW, ((0, 2), (1, 3)), ((0, 1, 2, 3),))),
        "block_sizes": (("world",), (ROW,)),
    },
    "rims": {
        "rims": (("world",), (LESSON,)),
        "figure": (("world",), (LESSON,)),
        "figure_breach": (("value",), (((((0,), (0,)),), (1,), (1,), (1,)),)),
        "world_of": (("value",), (((((0,), (0,)),), (3,), (2,), (1,)),)),
    },
    "twists": {
        "twisted": (("world", "k", "times"), (LESSON, 0, 1)),
        "raised": (("world", "k", "more"), (LESSON, 0, 2)),
        "lowered": (("world", "k"), (TOWER, 1)),
        "twist_lot": (("world",), (LESSON,)),
    },
    "points": {
        "point_behind": (("world", "k", "point", "word"), (LESSON, 4, (1, 3, 2), "abC")),
        "point_lot": (("world", "k", "point"), (LESSON, 2, (1, 0, 1))),
        "point_lots": (("world", "k"), (LESSON, 2)),
    },
    "mirrors": {
        "mirrored": (("world",), (LESSON,)),
        "is_mirror_alike": (("world",), (LESSON,)),
        "is_mirror_lot": (("world",), (LESSON,)),
        "double_covers": (("world",), (LESSON,)),
    },
    "lines": {
        "step_walk": (("p", "q"), (5, 3)),
        "piece_walk": (("world", "piece", "p", "q"), (LESSON, 4, 3, 2)),
        "chords_to": (("world", "most"), (LESSON, 20)),
    },
}



def undo_behind(letters):
    """What undo of a book takes back behind letters."""
    book = books.Book(LESSON)
    for letter in letters:
        book.do(letter)
    return book.undo()


def again_behind(times):
    """What again of a book does behind undo, so many times."""
    book = books.Book(LESSON)
    book.do("a")
    for _ in range(times):
        book.undo()
    return book.again()


# For each error: a call that raises it, its attributes, and the same call
# without the fault.
RAISED = {
    "NotWorld": (check_world, (((0, 1), (1, 1)),), {"rule": "up", "place": 1}, (((0, 1), (1, 0)),)),
    "NotText": (read_world, ("0 / 0 ",), {"place": 5}, ("0 / 0",)),
    "NotWord": (done, (LESSON, "abr"), {"place": 2}, (LESSON, "ab")),
    "NotMatrix": (word_of, (((1, 1), (1, 1)),), {}, (((1, 1), (0, 1)),)),
    "TooLong": (word_of, (((1, 201), (0, 1)),), {"limit": 400}, (((1, 200), (0, 1)),)),
    "TooMany": (lot, (GREAT,), {"limit": 500}, (LESSON,)),
    "NotBlocks": (under, (ROW, ((0, 1), (2, 3))), {}, (ROW, ((0, 2), (1, 3)))),
    "NotHalfTurn": (stays, (LESSON, (1, 0, 2)), {}, (LESSON, (0, 1, 2))),
    "NotKind": (whole_stays, (ONE_SQUARE,), {}, (LESSON,)),
    "NotPaper": (
        check_lot_paper,
        (LESSON, LESSON, ("word", "a")),
        {"word": "word"},
        (LESSON, LESSON, ("word", "c")),
    ),
    "NotSheet": (judged, ("world f 0 / 0\nkinds f",), {"line": 1}, ("world f 0 / 0\nkind f",)),
    "NotDone": (undo_behind, ("",), {}, ("a",)),
    "NotUndone": (again_behind, (0,), {}, (1,)),
    "NotRound": (class_of, (LESSON, 0, "r"), {}, (LESSON, 0, "rr")),
    "NotBack": (return_listing, (LESSON, "a"), {}, (LESSON, "aa")),
    "NotPlain": (turning, (LESSON, 0, "rrrr"), {}, (LESSON, 0, "rr")),
    "NotFigure": (
        world_of,
        (((((0,), (0,)),), (1,), (1,), (1,)),),
        {"word": "twist"},
        (((((0,), (0,)),), (1,), (1,), (0,)),),
    ),
    "NotHigh": (lowered, (TOWER, 0), {}, (TOWER, 1)),
}

# For each class: the arguments that make an object, its methods with theirs.
CLASSES = {
    "Book": (("world", "most"), {"do": ("letter",), "undo": (), "again": (), "trial": ("word",), "twin": ()}),
    "Guide": (("book", "goal"), {"left": (), "go": ()}),
}


def is_of_told_kinds(value):
    if type(value) is tuple:
        return all(is_of_told_kinds(part) for part in value)
    return value is None or type(value) in (int, str, bool)


class TestErrors(unittest.TestCase):
    def test_all_are_there_and_no_others(self):
        classes = {
            name
            for name, value in vars(errors).items()
            if inspect.isclass(value) and issubclass(value, Exception)
        }
        self.assertEqual(classes, {"WorldError", *ATTRIBUTES})

    def test_each_is_a_direct_subclass(self):
        self.assertEqual(WorldError.__bases__, (ValueError,))
        for name in ATTRIBUTES:
            with self.subTest(name):
                self.assertEqual(getattr(errors, name).__bases__, (WorldError,))

    def test_attributes_are_what_was_told(self):
        for name, attributes in ATTRIBUTES.items():
            with self.subTest(name):
                values = tuple(range(500, 500 + len(attributes)))
                error = getattr(errors, name)(*values)
                for attribute, value in zip(attributes, values):
                    self.assertEqual(getattr(error, attribute), value)


    def test_each_is_raised(self):
        self.assertEqual(list(RAISED), list(ATTRIBUTES))
        self.assertEqual(len(RAISED), 18)
        for name, (function, wrong, attributes, right) in RAISED.items():
            with self.subTest(name):
                with self.assertRaises(WorldError) as caught:
                    function(*wrong)
                error = caught.exception
                self.assertIs(type(error), getattr(errors, name))
                self.assertIsInstance(error, ValueError)
                for other in ATTRIBUTES:
                    self.assertEqual(isinstance(error, getattr(errors, other)), other == name)
                told = {key: getattr(error, key) for key in ATTRIBUTES[name]}
                self.assertEqual(told, attributes)
                function(*right)


class TestInterface(unittest.TestCase):
    def each(self):
        for module_name, functions in INTERFACE.items():
            module = importlib.import_module("squareworlds." + module_name)
            for name, (arguments, values) in functions.items():
                yield module, getattr(module, name), arguments, values

    def test_functions_stand_in_their_files(self):
        for module, function, arguments, values in self.each():
            with self.subTest(function.__name__):
                self.assertEqual(function.__module__, module.__name__)

    def test_arguments_by_place_and_by_name(self):
        for module, function, arguments, values in self.each():
            with self.subTest(function.__name__):
                self.assertEqual(tuple(inspect.signature(function).parameters), arguments)
                by_place = function(*values)
                pairs = list(zip(arguments, values))
                self.assertEqual(function(**dict(pairs)), by_place)
                self.assertEqual(function(**dict(pairs[::-1])), by_place)
                self.assertEqual(function(values[0], **dict(pairs[:0:-1])), by_place)
                self.assertTrue(is_of_told_kinds(by_place))

    def test_what_is_handed_in_stands_as_it_was(self):
        for module, function, arguments, values in self.each():
            with self.subTest(function.__name__):
                before = repr(values)
                function(*values)
                self.assertEqual(repr(values), before)

    def test_classes(self):
        for name, (arguments, methods) in CLASSES.items():
            kept = getattr(books, name)
            self.assertEqual(kept.__module__, "squareworlds.books")
            self.assertEqual(tuple(inspect.signature(kept).parameters), arguments)
            for method, rest in methods.items():
                with self.subTest(name, method=method):
                    parameters = tuple(inspect.signature(vars(kept)[method]).parameters)
                    self.assertEqual(parameters[1:], rest)
        most = inspect.signature(books.Book).parameters["most"]
        self.assertEqual((most.kind, most.default), (most.KEYWORD_ONLY, 40))
        for name in ("now", "letters"):
            self.assertIsInstance(vars(books.Book)[name], property)

    def test_kinds_of_what_is_returned(self):
        for world in mixed_worlds():
            for module, function, arguments, values in self.each():
                # The lots of the greater worlds here may be too great.
                needs_lot = module.__name__.split(".")[1] in ("lots", "backs", "shares", "ends")
                if arguments == ("world",) and not (needs_lot and len(world[0]) > 6):
                    with self.subTest(function.__name__, world=world):
                        self.assertTrue(is_of_told_kinds(self.told_by(function, world)))

    def told_by(self, function, world):
        try:
            return function(world)
        except (NotKind, TooMany):
            return None


if __name__ == "__main__":
    unittest.main()
