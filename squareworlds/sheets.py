"""Sheets: texts that tell worlds and claims about them."""

from squareworlds.corners import kind
from squareworlds.covers import maps
from squareworlds.deeds import LETTERS, led, wrong_letter
from squareworlds.errors import NotSheet, NotText
from squareworlds.halfturns import is_twofold
from squareworlds.lots import are_of_one_lot
from squareworlds.rooms import rooms
from squareworlds.texts import read_world
from squareworlds.worlds import are_alike

NAME_SIGNS = "abcdefghijklmnopqrstuvwxyz"
MOST_NAME_SIGNS = 8
DIGITS = "0123456789"
MOST_DIGITS = 3
# What the words behind the first one of a claim are; behind the name of "kind"
# any number of integers may follow.
SORTS = {
    "alike": ("name", "name"),
    "kind": ("name",),
    "lot": ("name", "name"),
    "covers": ("name", "name"),
    "back": ("name", "word"),
    "twofold": ("name",),
    "rooms": ("name", "integer"),
}


def judged(text):
    """Return, claim by claim of a sheet, whether it is so."""
    worlds, claims = _read_sheet(text)
    return tuple([_is_so(worlds, words) for words in claims])


def _read_sheet(text):
    """Return a dict from the names to the worlds, and the words of the claims."""
    worlds = {}
    claims = []
    lines = text.split("\n") if text else []
    for place, line in enumerate(lines):
        words = line.split(" ")
        world = _world_told(words)
        if world is not None and not claims:
            worlds[words[1]] = world
        elif _is_claim(words):
            claims.append(words)
        else:
            raise NotSheet(place)
    return (worlds, claims)


def _world_told(words):
    """Return the world of a line "world NAME" and a text, None for other lines."""
    if words[0] != "world" or len(words) < 3 or not _is_name(words[1]):
        return None
    try:
        return read_world(" ".join(words[2:]))
    except NotText:
        return None


def _is_claim(words):
    """Tell whether these are the words of a claim."""
    sorts = _sorts_behind(words)
    if words[0] not in SORTS or len(words) != len(sorts) + 1:
        return False
    return all([_is_of_sort(word, sort) for word, sort in zip(words[1:], sorts)])


def _sorts_behind(words):
    """Return what the words behind the first one have to be."""
    sorts = SORTS.get(words[0], ())
    if words[0] == "kind":
        return sorts + ("integer",) * (len(words) - 2)
    return sorts


def _is_of_sort(word, sort):
    if sort == "name":
        return _is_name(word)
    if sort == "integer":
        return _is_integer(word)
    return word != "" and wrong_letter(word, LETTERS) is None


def _is_name(word):
    return 1 <= len(word) <= MOST_NAME_SIGNS and all([sign in NAME_SIGNS for sign in word])


def _is_integer(word):
    """Tell whether a word is an integer from 0 to 999, without needless zeros."""
    if not 1 <= len(word) <= MOST_DIGITS or not all([sign in DIGITS for sign in word]):
        return False
    return word == "0" or word[0] != "0"


def _is_so(worlds, words):
    """Tell whether a claim is so; it is not if a name is that of no world."""
    values = []
    for word, sort in zip(words[1:], _sorts_behind(words)):
        if sort == "name":
            values.append(worlds.get(word))
        else:
            values.append(int(word) if sort == "integer" else word)
    return None not in values and _holds(words[0], values[0], values[1:])


def _holds(claim, world, others):
    """Tell whether a claim about a world and further values is so."""
    if claim == "alike":
        return are_alike(world, others[0])
    if claim == "kind":
        return kind(world) == tuple(others)
    if claim == "lot":
        return are_of_one_lot(world, others[0])
    if claim == "covers":
        return maps(world, others[0]) != ()
    if claim == "back":
        return are_alike(led(world, others[0]), world)
    if claim == "twofold":
        return is_twofold(world)
    return len(rooms(world)) == others[0]
