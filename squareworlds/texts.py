"""Worlds as texts, such as "1 0 2 / 2 1 0"."""

from squareworlds.errors import NotText
from squareworlds.listings import first_wrong, merged

ENTRIES = {"0": 0, "1": 1, "2": 2, "3": 3, "4": 4, "5": 5, "6": 6, "7": 7}


def written(world):
    """Return the text of a world."""
    return " / ".join([_entries_written(entries) for entries in world])


def _entries_written(entries):
    return " ".join([str(entry) for entry in entries])


def read_world(text):
    """Return the world whose text this is, otherwise raise NotText with the
    length of the longest beginning that texts of worlds have, too."""
    right = _right_read(text)
    # Each entry of right has a blank behind it, and each of up one ahead.
    place = 2 * len(right) + 1
    up = _up_read(text, place, right)
    _check_sign(text, place + 2 * len(up), "")
    return (tuple(right), tuple(up))


def _sign(text, place):
    """Return the sign at a place, "" behind the last one."""
    return text[place:place + 1]


def _check_sign(text, place, sign):
    if _sign(text, place) != sign:
        raise NotText(place)


def _right_read(text):
    """Read entries from the beginning on, up to the "/" behind them.

    Unlike entries from 0 to 7 always begin some listing of at most 8 numbers,
    and there is a world for each listing as its right.
    """
    right = []
    place = 0
    while not (_sign(text, place) == "/" and right and first_wrong(right) is None):
        entry = ENTRIES.get(_sign(text, place))
        if entry is None or entry in right:
            raise NotText(place)
        right.append(entry)
        _check_sign(text, place + 1, " ")
        place += 2
    return right


def _up_read(text, place, right):
    """Read as many entries as right has, from the place on."""
    up = []
    while len(up) < len(right):
        _check_sign(text, place, " ")
        entry = ENTRIES.get(_sign(text, place + 1))
        if entry is None or entry >= len(right) or entry in up:
            raise NotText(place + 1)
        up.append(entry)
        if not _can_hang_together(right, up):
            raise NotText(place + 1)
        place += 2
    return up


def _can_hang_together(right, up):
    """Tell whether some world has this right and an up that begins so.

    What hangs together so far has as many squares without an upper one as
    squares without a lower one. So if all such parts have one, they can be
    joined in a circle; a part that has none can't be joined to another one.
    """
    labels = merged(list(range(len(right))), list(enumerate(right)) + list(enumerate(up)))
    if labels == [labels[0]] * len(labels):
        return True
    return all([label in labels[len(up):] for label in labels])
