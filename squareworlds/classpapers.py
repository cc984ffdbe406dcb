"""Papers, by which one can see at once whether two round walks are of one
class."""

from squareworlds.classes import (
    class_walks,
    count_of,
    crossing_of_counts,
    round_count,
    turns_to_ties,
    with_turns,
)
from squareworlds.corners import corners
from squareworlds.deeds import wrong_letter
from squareworlds.errors import NotPaper
from squareworlds.listings import is_whole, is_whole_tuple
from squareworlds.walks import WALK_LETTERS, walked


def class_paper(world, square, walk, far_square, far_walk):
    """Return a paper that tells whether two round walks are of one class."""
    one = round_count(world, square, walk)
    other = round_count(world, far_square, far_walk)
    numbers = turns_to_ties(world, [far - near for near, far in zip(one, other)])
    if with_turns(world, other, numbers) == one:
        return ("corners", numbers)
    apart = [near for near in class_walks(world) if _tells_apart(world, one, other, 0, near)]
    return ("walk", 0, apart[0])


def _tells_apart(world, one, other, square, walk):
    """Tell whether round walks with two counts cross a round walk unlike often."""
    count = count_of(world, square, walk)
    return crossing_of_counts(world, one, count) != crossing_of_counts(world, other, count)


def check_class_paper(world, square, walk, far_square, far_walk, paper):
    """Return True for numbers of turns that lead from one round walk to the
    other, False for a round walk that they cross unlike often, and raise
    NotPaper for all else."""
    one = round_count(world, square, walk)
    other = round_count(world, far_square, far_walk)
    if _has_form(paper, "corners", 2) and isinstance(paper[1], tuple):
        numbers = paper[1]
        if not is_whole_tuple(numbers) or len(numbers) != len(corners(world)):
            raise NotPaper("corners")
        if with_turns(world, other, numbers) != one:
            raise NotPaper("corners")
        return True
    if _has_form(paper, "walk", 3) and _is_square(world, paper[1]) and isinstance(paper[2], str):
        if not _is_round(world, paper[1], paper[2]):
            raise NotPaper("walk")
        if not _tells_apart(world, one, other, paper[1], paper[2]):
            raise NotPaper("walk")
        return False
    raise NotPaper("form")


def _has_form(paper, word, many):
    """Tell whether a value is a tuple of so many entries, begun with the word."""
    return isinstance(paper, tuple) and len(paper) == many and paper[0] == word


def _is_square(world, value):
    return is_whole(value) and 0 <= value < len(world[0])


def _is_round(world, square, walk):
    """Tell whether a string is a walk that leads back."""
    return wrong_letter(walk, WALK_LETTERS) is None and walked(world, square, walk) == square
