"""What words that bring a world back do to the classes of round walks."""

from squareworlds.classes import count_of, sides_over, tied, walk_behind, walks_over_free_sides
from squareworlds.covers import maps
from squareworlds.deeds import LETTERS, check_letters, done, led, matrix
from squareworlds.errors import NotBack


def return_listing(world, word):
    """Return the least listing by which the world behind a word is renamed to
    the world itself."""
    found = maps(world, done(world, word))
    if not found:
        raise NotBack("the word does not bring the world back")
    return found[0]


def count_behind(world, count, word):
    """Return the count behind a word of what has this count."""
    check_letters(word, LETTERS)
    return _counts_behind(world, [count], word)[0]


def _counts_behind(world, counts, word):
    for letter in word:
        world = led(world, letter)
        steps = _steps_behind(world, letter)
        counts = [_count_by_steps(count, steps) for count in counts]
    return counts


def _steps_behind(world, letter):
    """Return, side by side, what a step over it goes over behind a letter, in
    the world behind the letter."""
    steps = []
    for step in "ru":
        walk = walk_behind(step, letter)
        steps = steps + [sides_over(world, square, walk) for square in range(len(world[0]))]
    return steps


def _count_by_steps(count, steps):
    """Return the count with what each step goes over, as often as counted."""
    found = [0] * len(count)
    for times, sides in zip(count, steps):
        for side, sign in sides:
            found[side] += times * sign
    return tuple(found)


def return_polynomial(world, word):
    """Return the characteristic polynomial of what a word does to classes,
    from the coefficient of 1 on."""
    return _characteristic(_table_of(world, word))


def _table_of(world, word):
    """Return what a word does to classes, told by their entries at the free
    sides, row by row for classes that are 1 at one of these alone."""
    listing = return_listing(world, word)
    walks = walks_over_free_sides(world)
    counts = [count_of(world, 0, walk) for walk in walks.values()]
    rows = []
    for count in _counts_behind(world, counts, word):
        told = tied(world, _read_by(listing, count))
        rows.append([told[side] for side in walks])
    return rows


def _read_by(listing, count):
    """Return the count with the sides of the square k those of listing[k]."""
    n = len(listing)
    return [count[square] for square in listing] + [count[n + square] for square in listing]


def _characteristic(table):
    """Return det(t - table), from the coefficient of 1 on.

    Each power of the table, with what is known of the polynomial added, gives
    the next coefficient by its trace (Faddeev and LeVerrier)."""
    size = len(table)
    told = [1]
    power = table
    for k in range(1, size + 1):
        told.append(-sum([power[i][i] for i in range(size)]) // k)
        power = _times(table, _with_diagonal(power, told[-1]))
    return tuple(reversed(told))


def _with_diagonal(table, entry):
    """Return a table with an entry added from the upper left to the lower right."""
    rows = [list(row) for row in table]
    for i in range(len(rows)):
        rows[i][i] += entry
    return rows


def _times(one, other):
    """Return one table times another one."""
    columns = list(zip(*other))
    return [[sum([a * b for a, b in zip(row, column)]) for column in columns] for row in one]


def rest_polynomial(world, word):
    """Return what is left of return_polynomial without the factor 1 - m t + t t,
    m being the trace of the matrix."""
    polynomial = return_polynomial(world, word)
    (a, _), (_, d) = matrix(word)
    rest = [0, 0]
    for entry in polynomial[:-2]:
        rest.append(entry + (a + d) * rest[-1] - rest[-2])
    return tuple(rest[2:])


def trace_of(world, word):
    """Return the trace of what a word does to classes."""
    return -return_polynomial(world, word)[-2]
