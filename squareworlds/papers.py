"""Papers, by which one can see at once whether a world is of a lot, and
whether it is covered."""

from squareworlds.covers import maps
from squareworlds.deeds import LETTERS, led, wrong_letter
from squareworlds.errors import NotPaper
from squareworlds.listings import is_whole_tuple
from squareworlds.lots import MOST_WORLDS, lot, way
from squareworlds.walks import WALK_LETTERS, steps_of, walked
from squareworlds.worlds import are_alike, least_form, world_breach


def lot_paper(one, other):
    """Return a paper that tells whether other is of the lot of one."""
    forms = lot(one)
    if least_form(other) in forms:
        return ("word", way(one, other))
    return ("lot", forms)


def check_lot_paper(one, other, paper):
    """Return True for a word that leads from one to other, False for a lot of
    one without other, and raise NotPaper for all else."""
    word, told = _told_by(paper)
    if word == "word" and isinstance(told, str):
        if wrong_letter(told, LETTERS) is not None or not are_alike(led(one, told), other):
            raise NotPaper("word")
        return True
    if word == "lot" and isinstance(told, tuple) and len(told) <= MOST_WORLDS:
        if not _are_forms(told) or not _is_lot_without(one, other, told):
            raise NotPaper("lot")
        return False
    raise NotPaper("form")


def _told_by(paper):
    """Return the two entries of a pair, and twice None for all else."""
    if isinstance(paper, tuple) and len(paper) == 2:
        return paper
    return (None, None)


def _are_forms(values):
    """Tell whether values are least forms of worlds, ascending."""
    for value in values:
        if world_breach(value) is not None or least_form(value) != value:
            return False
    return all([one < other for one, other in zip(values, values[1:])])


def _is_lot_without(one, other, forms):
    """Tell whether one is among the least forms, other is not, and "a" and "b"
    lead from each of them to such."""
    among = set(forms)
    if least_form(one) not in among or least_form(other) in among:
        return False
    for form in forms:
        for letter in "ab":
            if least_form(led(form, letter)) not in among:
                return False
    return True


def cover_paper(one, other):
    """Return a paper that tells whether there is a map from one to other."""
    found = maps(one, other)
    if found:
        return ("map", found[0])
    return ("walks", tuple([_walk_apart(one, other, t) for t in range(len(other[0]))]))


def _walk_apart(one, other, start):
    """Return a walk that leads from square 0 of one back to it, and from the
    start in other elsewhere; there is one if no map takes 0 to the start."""
    steps = steps_of(one)
    far_steps = steps_of(other)
    walks = {(0, start): ""}
    met = [(0, start)]
    at = 0
    while met[at][0] != 0 or met[at][1] == start:
        here, far = met[at]
        for letter in WALK_LETTERS:
            near = (steps[letter][here], far_steps[letter][far])
            if near not in walks:
                walks[near] = walks[(here, far)] + letter
                met.append(near)
        at += 1
    return walks[met[at]]


def check_cover_paper(one, other, paper):
    """Return True for a map from one to other, False for walks that tell that
    there is none, and raise NotPaper for all else."""
    word, told = _told_by(paper)
    if word not in ("map", "walks") or not isinstance(told, tuple):
        raise NotPaper("form")
    if word == "map":
        if not is_whole_tuple(told) or told not in maps(one, other):
            raise NotPaper("map")
        return True
    if len(told) != len(other[0]):
        raise NotPaper("walks")
    for t, walk in enumerate(told):
        if wrong_letter(walk, WALK_LETTERS) is not None:
            raise NotPaper("walks")
        if walked(one, 0, walk) != 0 or walked(other, t, walk) == t:
            raise NotPaper("walks")
    return False
