"""The deeds, by which worlds are leant, lifted and turned, and their matrices."""

from squareworlds.errors import NotMatrix, NotWord, TooLong
from squareworlds.listings import chained, is_whole, undone

MOST_LETTERS = 400
GREATEST_ENTRY = 200
LETTERS = "ABCabc"
ONE = ((1, 0), (0, 1))
MATRICES = {
    "a": ((1, 1), (0, 1)),
    "A": ((1, -1), (0, 1)),
    "b": ((1, 0), (1, 1)),
    "B": ((1, 0), (-1, 1)),
    "c": ((0, 1), (-1, 0)),
    "C": ((0, -1), (1, 0)),
}
UNDOING = {"a": "A", "A": "a", "b": "B", "B": "b", "c": "C", "C": "c"}


def _leant(world):
    right, up = world
    return (right, chained(undone(right), up))


def _leant_back(world):
    right, up = world
    return (right, chained(right, up))


def _lifted(world):
    right, up = world
    return (chained(undone(up), right), up)


def _lifted_back(world):
    right, up = world
    return (chained(up, right), up)


def _turned(world):
    right, up = world
    return (up, undone(right))


def _turned_back(world):
    right, up = world
    return (undone(up), right)


DEEDS = {
    "a": _leant,
    "A": _leant_back,
    "b": _lifted,
    "B": _lifted_back,
    "c": _turned,
    "C": _turned_back,
}


def wrong_letter(value, letters):
    """Return None for a string of at most 400 of the letters, otherwise the
    place of the first sign that is wrong or too many, -1 for no string."""
    if not isinstance(value, str):
        return -1
    for place, sign in enumerate(value[:MOST_LETTERS]):
        if sign not in letters:
            return place
    if len(value) > MOST_LETTERS:
        return MOST_LETTERS
    return None


def check_letters(value, letters):
    """Raise NotWord if a value is no string of at most 400 of the letters."""
    place = wrong_letter(value, letters)
    if place is not None:
        raise NotWord(place)


def done(world, word):
    """Return the world behind a word."""
    check_letters(word, LETTERS)
    return led(world, word)


def led(world, letters):
    """Return the world behind letters, however many there are."""
    for letter in letters:
        deed = DEEDS[letter]
        world = deed(world)
    return world


def matrix(word):
    """Return the matrix of a word."""
    check_letters(word, LETTERS)
    table = ONE
    for letter in word:
        table = _times(MATRICES[letter], table)
    return table


def _times(one, other):
    """Return one matrix times another one."""
    (a, b), (c, d) = one
    (e, f), (g, h) = other
    return ((a * e + b * g, a * f + b * h), (c * e + d * g, c * f + d * h))


def word_of(value):
    """Return a word whose matrix the value is."""
    check_matrix(value)
    word = word_along(value[0][0], value[1][0])
    # The word leads the first column to (1, 0), so what is left is leaning.
    lean = _times(matrix(word), value)[0][1]
    return ("a" if lean > 0 else "A") * abs(lean) + undoing(word)


def check_matrix(value):
    """Raise an error if a value is no matrix of a word, or of too long ones."""
    if not _has_matrix_form(value):
        raise NotMatrix("no pair of pairs of integers")
    (a, b), (c, d) = value
    if a * d - b * c != 1:
        raise NotMatrix("the determinant is not 1")
    if max(abs(a), abs(b), abs(c), abs(d)) > GREATEST_ENTRY:
        raise TooLong(MOST_LETTERS)


def _has_matrix_form(value):
    """Tell whether a value is a pair of pairs of integers."""
    if not isinstance(value, tuple) or len(value) != 2:
        return False
    for row in value:
        if not isinstance(row, tuple) or len(row) != 2:
            return False
        if not is_whole(row[0]) or not is_whole(row[1]):
            return False
    return True


def undoing(word):
    """Return the word that undoes a word."""
    return "".join([UNDOING[letter] for letter in reversed(word)])


def word_along(p, q):
    """Return letters whose matrix leads the direction (p, q) to (1, 0)."""
    letters = []
    while q != 0:
        letter = _shortening_letter(p, q)
        (a, b), (c, d) = MATRICES[letter]
        p, q = a * p + b * q, c * p + d * q
        letters.append(letter)
    if p < 0:
        letters.append("cc")
    return "".join(letters)


def _shortening_letter(p, q):
    """Return the letter that takes the entry nearer to 0 off the other one."""
    if p == 0:
        return "c"
    unlike = (p < 0) != (q < 0)
    if abs(p) >= abs(q):
        return "a" if unlike else "A"
    return "b" if unlike else "B"
