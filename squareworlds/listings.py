"""Listings, tuples that have each of the integers 0, .., n - 1 once, and
labels, by which things are told to be together."""


def is_whole(value):
    """Tell whether a value is an integer; True and False are none."""
    return isinstance(value, int) and not isinstance(value, bool)


def is_whole_tuple(value):
    """Tell whether a value is a tuple of integers."""
    return isinstance(value, tuple) and all([is_whole(entry) for entry in value])


def first_wrong(entries):
    """Return the index of the first entry that keeps a tuple from being a
    listing, None if it is one."""
    met = set()
    for place, entry in enumerate(entries):
        if not is_whole(entry) or not 0 <= entry < len(entries) or entry in met:
            return place
        met.add(entry)
    return None


def undone(listing):
    """Return the listing that undoes a listing."""
    back = [0] * len(listing)
    for place, entry in enumerate(listing):
        back[entry] = place
    return tuple(back)


def chained(first, second):
    """Return the listing that goes on by the first and then by the second."""
    return tuple([second[entry] for entry in first])


def round_from(listing, start):
    """Return the round of an entry, begun with it."""
    met = [start]
    while listing[met[-1]] != start:
        met.append(listing[met[-1]])
    return tuple(met)


def rounds(listing):
    """Return all rounds, ascending, each begun with its least entry."""
    met = set()
    found = []
    for start in range(len(listing)):
        if start not in met:
            found.append(round_from(listing, start))
            for entry in found[-1]:
                met.add(entry)
    return tuple(found)


def merged(labels, pairs):
    """Return labels that are alike where they were, and at both places of
    each of the pairs."""
    for one, other in pairs:
        old = labels[one]
        new = labels[other]
        labels = [new if label == old else label for label in labels]
    return labels


def tally(numbers):
    """Return the pairs (number, how often it is told), ascending."""
    return tuple([(number, numbers.count(number)) for number in sorted(set(numbers))])
