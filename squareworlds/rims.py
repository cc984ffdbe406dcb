"""Rims of rooms, and figures, which tell a world by its rooms."""

from squareworlds.corners import kind
from squareworlds.covers import MOST_SQUARES
from squareworlds.errors import NotFigure, NotKind
from squareworlds.listings import first_wrong, is_whole_tuple, merged
from squareworlds.rooms import rooms
from squareworlds.straights import great_corners, straight
from squareworlds.worlds import least_form


def rims(world):
    """Return, room by room, the chords of the lower and of the upper rim."""
    if kind(world) == ():
        raise NotKind("no great corner")
    squares = _chord_squares(world)
    up = world[1]
    found = []
    for room in rooms(world):
        lower = [square for square in room[0] if square in squares]
        upper = [up[square] for square in room[-1] if up[square] in squares]
        found.append((_from_least(lower), _from_least(upper)))
    return tuple(found)


def _chord_squares(world):
    """Return the squares whose lower left corner is great."""
    return [square for square, corner in enumerate(great_corners(world)) if corner is not None]


def _from_least(chords):
    """Return the chords of a rim, begun with the least one."""
    at = chords.index(min(chords))
    return tuple(chords[at:] + chords[:at])


def figure(world):
    """Return the figure of a world."""
    told = rims(world)
    squares = _chord_squares(world)
    twists = []
    for room, (lower, upper) in zip(rooms(world), told):
        twists.append(_twist(world, room, lower[0], upper[0]))
    return (
        tuple([(_numbers(squares, lower), _numbers(squares, upper)) for lower, upper in told]),
        tuple([straight(world, square, 1, 0)[0] for square in squares]),
        tuple([len(room) for room in rooms(world)]),
        tuple(twists),
    )


def _numbers(squares, chords):
    return tuple([squares.index(chord) for chord in chords])


def _twist(world, room, first, first_above):
    """Return how far to the right the first chord of the upper rim begins of
    what lies straight above the beginning of the first one of the lower rim."""
    right, up = world
    there = first
    for _ in room:
        below = there
        there = up[there]
    twist = 0
    while up[below] != first_above:
        below = right[below]
        twist += 1
    return twist


def figure_breach(value):
    """Return None for a figure, otherwise the word of the first broken rule."""
    if not _has_form(value):
        return "form"
    told, lengths, heights, twists = value
    widths = [_width(lower, lengths) for lower, _ in told]
    if widths != [_width(upper, lengths) for _, upper in told]:
        return "width"
    if any([twist >= width for twist, width in zip(twists, widths)]):
        return "twist"
    if sum([width * height for width, height in zip(widths, heights)]) > MOST_SQUARES:
        return "size"
    if not _hangs_together(told):
        return "apart"
    return None


def _width(chords, lengths):
    return sum([lengths[chord] for chord in chords])


def _has_form(value):
    """Tell whether a value is a figure as told, whatever its numbers tell."""
    if not isinstance(value, tuple) or len(value) != 4:
        return False
    told, lengths, heights, twists = value
    if not isinstance(told, tuple) or not all([_is_pair_of_rims(pair) for pair in told]):
        return False
    return (
        _has_chords(told, lengths)
        and _has_numbers(heights, 1, len(told))
        and _has_numbers(twists, 0, len(told))
    )


def _is_pair_of_rims(value):
    """Tell whether a value is a pair of tuples of integers that are not empty."""
    if not isinstance(value, tuple) or len(value) != 2:
        return False
    return all([is_whole_tuple(chords) and len(chords) > 0 for chords in value])


def _has_chords(told, lengths):
    """Tell whether lengths tells those of some chords, each of which is in one
    lower and in one upper rim."""
    lower = [chord for pair in told for chord in pair[0]]
    upper = [chord for pair in told for chord in pair[1]]
    if first_wrong(lower) is not None or first_wrong(upper) is not None:
        return False
    return 0 < len(lower) == len(upper) and _has_numbers(lengths, 1, len(lower))


def _has_numbers(value, least, many):
    """Tell whether a value is a tuple of so many integers of at least so much."""
    if not is_whole_tuple(value) or len(value) != many:
        return False
    return all([number >= least for number in value])


def _hangs_together(told):
    """Tell whether one comes from each pair of rims to each other one by chords."""
    pairs = []
    for one, (_, upper) in enumerate(told):
        for other, (lower, _) in enumerate(told):
            if any([chord in lower for chord in upper]):
                pairs.append((one, other))
    labels = merged(list(range(len(told))), pairs)
    return labels.count(labels[0]) == len(labels)


def world_of(value):
    """Return the least form of the world that a figure tells."""
    word = figure_breach(value)
    if word is not None:
        raise NotFigure(word)
    told, lengths, heights, twists = value
    beginnings = _beginnings(told, lengths, heights)
    right = []
    up = []
    for (_, upper), height, twist in zip(told, heights, twists):
        above = [beginnings[chord] + place for chord in upper for place in range(lengths[chord])]
        width = len(above)
        for _ in range(height):
            first = len(right)
            right.extend([first + (place + 1) % width for place in range(width)])
            up.extend([first + width + place for place in range(width)])
        # Above the highest row, the first chord begins a twist to the right.
        up[-width:] = above[width - twist:] + above[:width - twist]
    return least_form((tuple(right), tuple(up)))


def _beginnings(told, lengths, heights):
    """Return a dict from each chord to the square above its left end, the
    squares numbered room by room, row by row and from left to right."""
    found = {}
    first = 0
    for (lower, _), height in zip(told, heights):
        at = first
        for chord in lower:
            found[chord] = at
            at += lengths[chord]
        first += height * (at - first)
    return found
