"""Turnings of plain round walks, and the parity of a world."""

from squareworlds.classes import GOING_BACK, check_round, class_walks, count_of, crossing_of_counts
from squareworlds.corners import kind
from squareworlds.errors import NotKind, NotPlain
from squareworlds.walks import squares_on, steps_of

TURNS_TO_THE_LEFT = ("ru", "ul", "ld", "dr")
TURNS_TO_THE_RIGHT = ("rd", "dl", "lu", "ur")


def turning(world, square, walk):
    """Return how often a plain round walk turns round to the left in all."""
    check_round(world, square, walk)
    if not _is_plain(world, square, walk):
        raise NotPlain("the round walk is not plain")
    pairs = _pairs_of(walk)
    left = len([pair for pair in pairs if pair in TURNS_TO_THE_LEFT])
    right = len([pair for pair in pairs if pair in TURNS_TO_THE_RIGHT])
    return (left - right) // 4


def _pairs_of(walk):
    """Return all pairs of letters one behind the other, the last letter being
    followed by the first one."""
    return [walk[place - 1] + walk[place] for place in range(len(walk))]


def _is_plain(world, square, walk):
    """Tell whether a round walk meets no square twice and never turns back."""
    met = squares_on(world, square, walk)[:-1]
    turns_back = any([GOING_BACK[pair[0]] == pair[1] for pair in _pairs_of(walk)])
    return walk != "" and len(set(met)) == len(met) and not turns_back


def parity(world):
    """Return the parity of a world all of whose turns are odd."""
    if not all([turn % 2 == 1 for turn in kind(world)]):
        raise NotKind("some turn is even")
    numbers = _numbers_of_classes(world)
    return 0 if numbers.count(0) > numbers.count(1) else 1


def _numbers_of_classes(world):
    """Return the numbers that are given to all classes modulo 2, as sums of
    the classes of which each one is a sum."""
    walks = class_walks(world)
    counts = [count_of(world, 0, walk) for walk in walks]
    found = [((), 0)]
    for place, walk in enumerate(walks):
        own = _number_of(world, walk)
        for members, number in list(found):
            crossings = [crossing_of_counts(world, counts[place], counts[k]) for k in members]
            found.append((members + (place,), (number + own + sum(crossings)) % 2))
    return [number for _, number in found]


def _number_of(world, walk):
    """Return the number that is given to a walk from square 0 along a tree,
    over one further side, and back along the tree.

    What leads to and fro at its ends does not count for its class; without it
    the walk is plain."""
    steps = steps_of(world)
    square = 0
    while GOING_BACK[walk[0]] == walk[-1]:
        square = steps[walk[0]][square]
        walk = walk[1:-1]
    return (turning(world, square, walk) + 1) % 2
