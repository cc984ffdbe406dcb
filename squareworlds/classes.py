"""Round walks: their counts, their classes, and how they cross."""

from squareworlds.corners import corner_indices
from squareworlds.deeds import LETTERS, MOST_LETTERS, check_letters
from squareworlds.errors import NotRound, TooLong
from squareworlds.listings import undone
from squareworlds.walks import WALK_LETTERS, squares_on, steps_of, walked

# What a letter of a walk becomes behind a letter of a word, if it changes.
BEHIND = {
    "au": "ru", "ad": "dl", "Au": "lu", "Ad": "dr",
    "br": "ur", "bl": "ld", "Br": "dr", "Bl": "lu",
    "cr": "d", "cu": "r", "cl": "u", "cd": "l",
    "Cr": "u", "Cu": "l", "Cl": "d", "Cd": "r",
}
GOING_BACK = {"r": "l", "l": "r", "u": "d", "d": "u"}


def sides_over(world, square, letters):
    """Return, letter by letter, the side that a walk goes over, and 1 for right
    and up, -1 for left and down."""
    n = len(world[0])
    squares = squares_on(world, square, letters)
    sides = []
    for letter, here, near in zip(letters, squares, squares[1:]):
        first = 0 if letter in "rl" else n
        sides.append((first + here, 1) if letter in "ru" else (first + near, -1))
    return sides


def count_of(world, square, walk):
    """Return, side by side, how often a walk goes over it less how often back."""
    check_letters(walk, WALK_LETTERS)
    count = [0] * (2 * len(world[0]))
    for side, sign in sides_over(world, square, walk):
        count[side] += sign
    return tuple(count)


def check_round(world, square, walk):
    """Raise an error if a value is no walk, or none that leads back."""
    if walked(world, square, walk) != square:
        raise NotRound("the walk does not lead back")


def round_count(world, square, walk):
    """Return the count of a walk that leads back."""
    check_round(world, square, walk)
    return count_of(world, square, walk)


def _ends_of_sides(world):
    """Return, side by side, the pair of corners at which turning once counts
    -1 and 1: the lower and the upper one, or the right and the left one."""
    right, up = world
    indices = corner_indices(world)
    below = [indices[near] for near in undone(up)]
    before = [indices[near] for near in undone(right)]
    return list(zip(below, indices)) + list(zip(indices, before))


def _ties_as_met(ends):
    """Return the tie sides in the sequence in which they meet their corners."""
    met = [0]
    ties = []
    at = 0
    while at < len(met):
        for side, pair in enumerate(ends):
            for corner in pair:
                if met[at] in pair and corner not in met:
                    met.append(corner)
                    ties.append(side)
        at += 1
    return ties


def tie_sides(world):
    """Return the tie sides, ascending."""
    return tuple(sorted(_ties_as_met(_ends_of_sides(world))))


def turns_to_ties(world, count):
    """Return, corner by corner, how often to turn about it, so that the count
    with these turns added is 0 at all tie sides."""
    ends = _ends_of_sides(world)
    turns = {0: 0}
    for side in _ties_as_met(ends):
        less, more = ends[side]
        if less in turns:
            turns[more] = turns[less] - count[side]
        else:
            turns[less] = turns[more] + count[side]
    return tuple([turns[corner] for corner in range(len(turns))])


def with_turns(world, count, turns):
    """Return a count with turning so many times about each corner added."""
    ends = _ends_of_sides(world)
    return tuple([old + turns[more] - turns[less] for old, (less, more) in zip(count, ends)])


def tied(world, count):
    """Return the count that differs by turning about corners and is 0 at all
    tie sides."""
    return with_turns(world, count, turns_to_ties(world, count))


def class_of(world, square, walk):
    """Return what tells the class of a round walk: its count with turning
    about corners added, so that it is 0 at all tie sides."""
    return tied(world, round_count(world, square, walk))


def crossing(world, square, walk, far_square, far_walk):
    """Return the crossing of two round walks."""
    count = round_count(world, square, walk)
    return crossing_of_counts(world, count, round_count(world, far_square, far_walk))


def crossing_of_counts(world, one, other):
    """Return the crossing of round walks with these counts."""
    n = len(world[0])
    left = undone(world[0])
    down = undone(world[1])
    total = 0
    for s in range(n):
        total += one[s] * other[n + down[s]] - one[n + s] * other[left[s]]
    return total


def class_walks(world):
    """Return walks that lead from square 0 back to it, of the classes of which
    each class is a sum in one way."""
    return tuple(walks_over_free_sides(world).values())


def walks_over_free_sides(world):
    """Return a dict from each free side to a walk from square 0 back to it
    that goes once over this side and over no other free one.

    The tie sides leave all squares together. Some of the other sides join the
    squares as a tree, and the free sides are those that are left: a class that
    is 0 there would lead round in the tree, so it is 0. Hence the entries at
    the free sides tell a class."""
    n = len(world[0])
    tree, walks_to = _tree_walks(world)
    steps = steps_of(world)
    kept = tree + list(tie_sides(world))
    walks = {}
    for side in range(2 * n):
        if side not in kept:
            letter = "r" if side < n else "u"
            here = side % n
            walks[side] = walks_to[here] + letter + backward(walks_to[steps[letter][here]])
    return walks


def _tree_walks(world):
    """Return sides that join all squares as a tree, none of them a tie side,
    and a dict from each square to the walk to it from square 0 over these."""
    steps = steps_of(world)
    ties = tie_sides(world)
    tree = []
    walks_to = {0: ""}
    met = [0]
    at = 0
    while at < len(met):
        here = met[at]
        for letter in WALK_LETTERS:
            near = steps[letter][here]
            side, _ = sides_over(world, here, letter)[0]
            if near not in walks_to and side not in ties:
                walks_to[near] = walks_to[here] + letter
                tree.append(side)
                met.append(near)
        at += 1
    return (tree, walks_to)


def backward(walk):
    """Return the walk that leads back over the same sides."""
    return "".join([GOING_BACK[letter] for letter in reversed(walk)])


def walk_behind(walk, word):
    """Return the walk behind the letters of a word."""
    check_letters(walk, WALK_LETTERS)
    check_letters(word, LETTERS)
    for letter in word:
        walk = "".join([BEHIND.get(letter + step, step) for step in walk])
        if len(walk) > MOST_LETTERS:
            raise TooLong(MOST_LETTERS)
    return walk
