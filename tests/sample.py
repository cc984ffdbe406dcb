"""Worlds to test with: all small ones, and a fixed choice of greater ones."""

from itertools import permutations

from squareworlds.worlds import world_breach

LESSON = ((1, 0, 2), (2, 1, 0))
ONE_SQUARE = ((0,), (0,))
# Lots of 768 and 540 worlds, so too great ones, and one of 480.
GREAT = ((0, 1, 3, 2, 4, 6, 5), (1, 2, 0, 4, 5, 6, 3))
TOO_GREAT = ((0, 2, 1, 4, 3, 6, 7, 5), (1, 2, 3, 5, 0, 4, 7, 6))
NEARLY_TOO_GREAT = ((0, 2, 1, 3, 5, 6, 7, 4), (1, 2, 3, 4, 5, 7, 6, 0))


def listings(n):
    return list(permutations(range(n)))


def all_worlds(n):
    """All worlds of n squares, alike or not."""
    pairs = [(right, up) for right in listings(n) for up in listings(n)]
    return [pair for pair in pairs if hangs_together(pair)]


def hangs_together(pair):
    right, up = pair
    met = {0}
    while True:
        more = met | {right[s] for s in met} | {up[s] for s in met}
        if more == met:
            return len(met) == len(right)
        met = more


def mixed(n, seed):
    """A listing of n numbers that is the same in each run."""
    rest = list(range(n))
    listing = []
    while rest:
        seed = (seed * 1103515245 + 12345) % 2147483648
        listing.append(rest.pop((seed >> 8) % len(rest)))
    return tuple(listing)


def some_worlds(n, many):
    """As many unlike worlds of n squares, fixed but without a pattern."""
    found = []
    seed = n
    while len(found) < many:
        seed += 1
        pair = (mixed(n, seed), mixed(n, seed + 7919))
        if hangs_together(pair) and pair not in found:
            found.append(pair)
    return found


def mixed_worlds():
    """Worlds of 1 to 8 squares: all up to 3 squares, some of the others."""
    worlds = all_worlds(1) + all_worlds(2) + all_worlds(3)
    for n in range(4, 9):
        worlds += some_worlds(n, 12)
    assert all(world_breach(world) is None for world in worlds)
    return worlds
