"""How many worlds there are by their turns, told without listing them."""

from math import comb, factorial

from squareworlds.shares import ratio


def all_parts(n):
    """Return all parts of n, descending."""
    return tuple(_parts_up_to(n, n))


def _parts_up_to(n, most):
    """Return the parts of n with no entry above most, descending."""
    if n == 0:
        return [()]
    found = []
    for first in range(min(n, most), 0, -1):
        for others in _parts_up_to(n - first, first):
            found.append((first,) + others)
    return found


def class_size(parts):
    """Return the number of listings with these turns."""
    alike = 1
    for place, part in enumerate(parts):
        # Each round can be begun anywhere, and equal ones can change places.
        alike = alike * part * (parts[:place].count(part) + 1)
    return factorial(sum(parts)) // alike


def character(shape, turns):
    """Return the character of a shape at turns."""
    sums = {shape: 1}
    for turn in turns:
        sums = _with_places_out(sums, turn)
    return sums.get((), 0)


def _with_places_out(sums, many):
    """Return what is left of shapes, each with a factor, behind all ways to
    take so many places out: the factors, added up for each shape."""
    found = {}
    for shape, factor in sums.items():
        for rest, sign in _ways_to_take(shape, many):
            found[rest] = found.get(rest, 0) + sign * factor
    return found


def _ways_to_take(shape, many):
    """Return the pairs (shape that is left, sign) for all ways to take so many
    places out of a shape.

    The end of a row plus the number of rows below it is unlike for all rows.
    To take places out is to make one of these numbers less, and the rows that
    it passes on its way down are the further ones in which a place is taken."""
    rows = len(shape)
    ends = [part + rows - 1 - row for row, part in enumerate(shape)]
    found = []
    for end in ends:
        least = end - many
        if least >= 0 and least not in ends:
            passed = len([far for far in ends if least < far < end])
            left = sorted([far for far in ends if far != end] + [least], reverse=True)
            found.append((_shape_with(left), -1 if passed % 2 == 1 else 1))
    return found


def _shape_with(ends):
    """Return the shape whose rows, each with the number of rows below it added,
    have these ends."""
    rows = len(ends)
    parts = [end - (rows - 1 - row) for row, end in enumerate(ends)]
    return tuple([part for part in parts if part > 0])


def pair_count(turns):
    """Return the number of pairs of listings whose around has these turns."""
    n = sum(turns)
    total = 0
    for shape in all_parts(n):
        # The character at single squares divides n factorial.
        total += factorial(n) // character(shape, (1,) * n) * character(shape, turns)
    return class_size(turns) * total


def joined_count(turns):
    """Return the number of worlds, alike or not, whose around has these turns."""
    return _joined(turns, {})


def _joined(turns, known):
    """Return joined_count, with what was worked out ahead in a dict."""
    if turns not in known:
        n = sum(turns)
        apart = 0
        for taken in _taken_of(turns):
            if 0 < len(taken) < len(turns):
                ways = comb(n - 1, sum(taken) - 1)
                apart += ways * _joined(taken, known) * pair_count(_without(turns, taken))
        known[turns] = pair_count(turns) - apart
    return known[turns]


def _taken_of(turns):
    """Return all unlike parts that come by taking some of the turns."""
    found = [()]
    for turn in turns:
        found = sorted(set(found + [taken + (turn,) for taken in found]))
    return found


def _without(turns, taken):
    """Return the turns that are left behind taking some of them."""
    left = list(turns)
    for turn in taken:
        left.remove(turn)
    return tuple(left)


def weight(turns):
    """Return the ratio of joined_count and n factorial."""
    return ratio(joined_count(turns), factorial(sum(turns)))


def row_count(rows, turns):
    """Return the number of pairs of listings of which the first one has the
    turns rows, and whose around has the others."""
    n = sum(turns)
    total = 0
    for shape in all_parts(n):
        values = character(shape, rows) * character(shape, rows) * character(shape, turns)
        total += factorial(n) // character(shape, (1,) * n) * values
    return class_size(rows) * class_size(turns) * total // factorial(n)
