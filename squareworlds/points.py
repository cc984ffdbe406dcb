"""Points within squares, and where words lead them."""

from squareworlds.covers import maps
from squareworlds.deeds import LETTERS, check_letters, led
from squareworlds.listings import undone
from squareworlds.lots import lot
from squareworlds.worlds import least_form


def _leant(world, k, point):
    s, i, j = point
    if i + j < k:
        return (s, i + j, j)
    return (world[0][s], i + j - k, j)


def _leant_back(world, k, point):
    s, i, j = point
    if i >= j:
        return (s, i - j, j)
    return (undone(world[0])[s], i - j + k, j)


def _lifted(world, k, point):
    s, i, j = point
    if i + j < k:
        return (s, i, i + j)
    return (world[1][s], i, i + j - k)


def _lifted_back(world, k, point):
    s, i, j = point
    if j >= i:
        return (s, i, j - i)
    return (undone(world[1])[s], i, j - i + k)


def _turned(world, k, point):
    s, i, j = point
    if i > 0:
        return (s, j, k - i)
    return (undone(world[0])[s], j, 0)


def _turned_back(world, k, point):
    s, i, j = point
    if j > 0:
        return (s, k - j, i)
    return (undone(world[1])[s], 0, i)


POINT_DEEDS = {
    "a": _leant,
    "A": _leant_back,
    "b": _lifted,
    "B": _lifted_back,
    "c": _turned,
    "C": _turned_back,
}


def point_behind(world, k, point, word):
    """Return the point behind a word."""
    check_letters(word, LETTERS)
    for letter in word:
        deed = POINT_DEEDS[letter]
        point = deed(world, k, point)
        world = led(world, letter)
    return point


def point_lot(world, k, point):
    """Return all points of the world to which words that bring it back lead a
    point, ascending."""
    return _points_led_to(world, k, point, _ways_on(world))


def point_lots(world, k):
    """Return all point lots, ascending."""
    ways_on = _ways_on(world)
    met = {}
    found = []
    for point in _all_points(world, k):
        if point not in met:
            found.append(_points_led_to(world, k, point, ways_on))
            for near in found[-1]:
                met[near] = True
    return tuple(found)


def _all_points(world, k):
    """Return all points of a world, ascending."""
    points = []
    for s in range(len(world[0])):
        for i in range(k):
            for j in range(k):
                points.append((s, i, j))
    return [point for point in points if point[1:] != (0, 0)]


def _ways_on(world):
    """Return a dict from each world of the lot to a list of the triples
    (letter, world of the lot to which it leads, a map to it), with all maps."""
    ways_on = {}
    for form in lot(world):
        ways_on[form] = []
        for letter in "ab":
            behind = led(form, letter)
            near = least_form(behind)
            for names in maps(behind, near):
                ways_on[form].append((letter, near, names))
    return ways_on


def _points_led_to(world, k, point, ways_on):
    """Return all points of the world to which one comes from a point by
    letters in the lot, and so by all words that bring the world back."""
    form = least_form(world)
    names = maps(world, form)[0]
    s, i, j = point
    waiting = [(form, (names[s], i, j))]
    met = {waiting[0]: True}
    while waiting:
        here, there = waiting.pop()
        for letter, near, near_names in ways_on[here]:
            deed = POINT_DEEDS[letter]
            s, i, j = deed(here, k, there)
            state = (near, (near_names[s], i, j))
            if state not in met:
                met[state] = True
                waiting.append(state)
    back = undone(names)
    found = []
    for here, (s, i, j) in met:
        if here == form:
            found.append((back[s], i, j))
    return tuple(sorted(found))
