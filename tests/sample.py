"""Worlds to test with: all small ones, and a fixed choice of greater ones;
walks, words, and what is none."""

from fractions import Fraction
from itertools import permutations

from squareworlds.worlds import world_breach

LESSON = ((1, 0, 2), (2, 1, 0))
ONE_SQUARE = ((0,), (0,))
# Lots of 768 and 540 worlds, so too great ones, and one of 480.
GREAT = ((0, 1, 3, 2, 4, 6, 5), (1, 2, 0, 4, 5, 6, 3))
TOO_GREAT = ((0, 2, 1, 4, 3, 6, 7, 5), (1, 2, 3, 5, 0, 4, 7, 6))
NEARLY_TOO_GREAT = ((0, 2, 1, 3, 5, 6, 7, 4), (1, 2, 3, 4, 5, 7, 6, 0))

# Worlds with three holes and more, by their kinds: twofold ones;
TWOFOLD = {
    (5,): ((0, 2, 1, 4, 3), (1, 0, 3, 2, 4)),
    (3, 3): ((0, 2, 1, 3, 5, 4), (1, 2, 3, 4, 0, 5)),
    (3, 2, 2): ((0, 2, 1, 3, 4, 6, 5), (1, 3, 4, 2, 5, 0, 6)),
    (2, 2, 2, 2): ((0, 2, 1, 3, 4, 6, 5, 7), (1, 3, 4, 2, 5, 0, 7, 6)),
    (7,): ((0, 2, 1, 4, 3, 6, 5), (1, 0, 3, 2, 5, 4, 6)),
    (5, 3): ((0, 2, 1, 3, 5, 4, 7, 6), (1, 2, 3, 4, 0, 6, 5, 7)),
    (4, 4): ((0, 2, 1, 4, 3, 6, 5, 7), (1, 0, 3, 2, 5, 4, 7, 6)),
}
# with half turns, none of which makes them twofold;
WITH_OTHER_HALF_TURNS = {
    (5,): ((0, 2, 1, 4, 3), (1, 2, 3, 4, 0)),
    (3, 3): ((0, 2, 1, 3, 5, 4), (1, 3, 4, 5, 0, 2)),
    (3, 2, 2): ((0, 2, 1, 3, 4, 6, 5), (1, 3, 4, 5, 6, 2, 0)),
    (2, 2, 2, 2): ((0, 2, 1, 3, 4, 6, 5, 7), (1, 3, 4, 5, 6, 7, 0, 2)),
    (7,): ((0, 2, 1, 3, 5, 6, 4), (1, 3, 4, 5, 0, 2, 6)),
    (5, 3): ((0, 2, 1, 3, 5, 4, 7, 6), (1, 2, 3, 4, 5, 6, 7, 0)),
    (4, 4): ((0, 2, 1, 3, 5, 6, 4, 7), (1, 3, 4, 5, 0, 2, 7, 6)),
}
# without half turns.
WITHOUT_HALF_TURNS = {
    (5,): ((0, 2, 1, 4, 3), (1, 2, 3, 0, 4)),
    (4, 2): ((0, 2, 1, 3, 5, 4), (1, 0, 3, 4, 2, 5)),
    (3, 3): ((0, 1, 3, 2, 4, 6, 5), (1, 2, 3, 4, 5, 0, 6)),
    (3, 2, 2): ((0, 2, 1, 3, 5, 4, 6), (1, 0, 3, 4, 6, 2, 5)),
    (2, 2, 2, 2): ((0, 2, 3, 4, 5, 7, 1, 6), (1, 3, 0, 4, 6, 2, 5, 7)),
    (7,): ((0, 2, 1, 3, 5, 6, 4), (1, 3, 4, 5, 0, 6, 2)),
    (6, 2): ((0, 2, 1, 3, 4, 6, 7, 5), (1, 3, 4, 5, 6, 0, 2, 7)),
    (5, 3): ((0, 2, 1, 3, 5, 4, 7, 6), (1, 2, 3, 4, 5, 6, 0, 7)),
    (4, 4): ((0, 2, 1, 3, 5, 6, 4, 7), (1, 3, 4, 5, 0, 7, 2, 6)),
}
GREATER_WORLDS = [
    *TWOFOLD.values(), *WITH_OTHER_HALF_TURNS.values(), *WITHOUT_HALF_TURNS.values()
]

# What is no walk, and what is no word, each with the place that is told.
BAD_WALKS = [
    (None, -1), (0, -1), (True, -1), (("r",), -1), (["r"], -1), (b"r", -1), ({}, -1),
    ("x", 0), ("R", 0), ("a", 0), (" r", 0), ("rrx", 2), ("r r", 1), ("r\n", 1),
    ("r" * 401, 400), ("r" * 400 + "x", 400), ("r" * 399 + "x", 399),
]
BAD_WORDS = [
    (None, -1), (0, -1), (False, -1), (("a",), -1), (["a"], -1), (b"a", -1),
    ("x", 0), ("r", 0), ("abx", 2), ("a b", 1), ("c" * 401, 400), ("c" * 400 + "x", 400),
]

# Four squares in a row, and what is no block set of it.
ROW = ((1, 2, 3, 0), (0, 1, 2, 3))
NO_BLOCKS_OF_ROW = [
    None, 0, True, "", "01", (), [(0, 2), (1, 3)], ([0, 2], (1, 3)), ((0, 2), [1, 3]),
    ({0, 2}, (1, 3)), (0, 1, 2, 3), ((0, 2), 1), ((0, 2), None), ((0, 2), "13"),
    ((0, 2), (1, 3), ()), ((), (0, 2), (1, 3)), ((0, 2),), ((0, 2), (1,)), ((0, 2), (1, 3, 4)),
    ((0, 2), (1, 3), (4,)), ((0, 2), (1, 2, 3)), ((0, 2), (1, 3), (1, 3)),
    ((0, 2), (0, 2), (1, 3)), ((0, 0, 2), (1, 3)), ((1, 3), (0, 2)), ((2, 0), (1, 3)),
    ((0, 2), (3, 1)), ((0, 1), (2, 3)), ((0,), (1, 2, 3)), ((0, 2), (True, 3)),
    ((False, 2), (1, 3)), ((0, 2.0), (1, 3)), ((0, 2), (1, "3")), ((0, 2), (1, None)),
    ((0, 2), (1, (3,))), ((0, 2), (1, -1)), ((0, 2), (1, 10 ** 30)),
]


def listings(n):
    return list(permutations(range(n)))


def all_worlds(n):
    """All worlds of n squares, alike or not."""
    pairs = [(right, up) for right in listings(n) for up in listings(n)]
    return [pair for pair in pairs if hangs_together(pair)]


def hangs_together(pair):
    right, up = pair
    met = {0}
    while True:
        more = met | {right[s] for s in met} | {up[s] for s in met}
        if more == met:
            return len(met) == len(right)
        met = more


def mixed(n, seed):
    """A listing of n numbers that is the same in each run."""
    rest = list(range(n))
    listing = []
    while rest:
        seed = (seed * 1103515245 + 12345) % 2147483648
        listing.append(rest.pop((seed >> 8) % len(rest)))
    return tuple(listing)


def some_worlds(n, many):
    """As many unlike worlds of n squares, fixed but without a pattern."""
    found = []
    seed = n
    while len(found) < many:
        seed += 1
        pair = (mixed(n, seed), mixed(n, seed + 7919))
        if hangs_together(pair) and pair not in found:
            found.append(pair)
    return found


def numbers_from(seed):
    """Numbers below 65536 without end, the same in each run."""
    while True:
        seed = (seed * 1103515245 + 12345) % 2147483648
        yield seed >> 15


def some_word(letters, length, seed):
    """A string of so many of the letters, the same in each run."""
    numbers = numbers_from(seed)
    return "".join(letters[next(numbers) % len(letters)] for _ in range(length))


def round_walks(world, many, seed=1):
    """Pairs of a square and a walk that leads from it back to it."""
    right, up = world
    steps = {"r": right, "u": up}
    steps["l"] = tuple(right.index(s) for s in range(len(right)))
    steps["d"] = tuple(up.index(s) for s in range(len(up)))
    found = []
    for k in range(many):
        square = (seed + k) % len(right)
        walk = some_word("ruld", (seed + 7 * k) % 23, seed + 31 * k)
        here = square
        for letter in walk:
            here = steps[letter][here]
        found.append((square, walk + way_home(steps, here, square, "ruld"[k % 4:] + "ruld"[:k % 4])))
    return found


def way_home(steps, here, square, letters):
    """A shortest walk from a square to another one."""
    walks = {here: ""}
    met = [here]
    for there in met:
        for letter in letters:
            if steps[letter][there] not in walks:
                walks[steps[letter][there]] = walks[there] + letter
                met.append(steps[letter][there])
    return walks[square]


def mixed_worlds():
    """Worlds of 1 to 8 squares: all up to 3 squares, some of the others."""
    worlds = all_worlds(1) + all_worlds(2) + all_worlds(3)
    for n in range(4, 9):
        worlds += some_worlds(n, 12)
    assert all(world_breach(world) is None for world in worlds)
    return worlds


def determinant(table):
    rows = [[Fraction(entry) for entry in row] for row in table]
    told = Fraction(1)
    while rows:
        row = next((row for row in rows if row[0] != 0), None)
        if row is None:
            return 0
        told *= row[0] * (-1) ** rows.index(row)
        rest = [other for other in rows if other is not row]
        rows = [
            [a - b * other[0] / row[0] for a, b in zip(other[1:], row[1:])] for other in rest
        ]
    return told


def solved(table, goal):
    """The numbers x with goal[j] the sum of x[i] table[i][j]."""
    whole = determinant(table)
    return [
        determinant(table[:i] + [goal] + table[i + 1:]) / whole for i in range(len(table))
    ]
