"""The pieces of lower sides, and how straight lines lead from piece to piece."""

from squareworlds.listings import rounds


def pieces(world, p, q):
    """Return the listing by which lines by (p, q) lead pieces to pieces."""
    right, up = world
    found = []
    for square in range(len(right)):
        for place in range(p, p + q):
            there = square
            for _ in range(place // q):
                there = right[there]
            found.append(q * up[there] + place % q)
    return tuple(found)


def piece_rounds(world, p, q):
    """Return the numbers of pieces in the rounds, the lesser ones first."""
    return tuple(sorted([len(told) for told in rounds(pieces(world, p, q))]))
