"""The RANKS of all LOTS of a SIDE at once, and the ROWS that they let.

A LOT is told here by a number with a bit for each place, that of place 0 being
the highest one; RANKS are a list with the RANK of each LOT at its number."""

# Of a SIDE with more places than a WEB within the bounds has there are too many
# LOTS to tell all their RANKS.
MOST_RANKED = 12


def bits_of(mask):
    """How many bits of mask are 1."""
    figures = f"{mask:b}"
    return figures.count("1")


def joined(pieces, mask):
    """The neighbours of each piece, as masks, when a place with those of mask
    is put to pieces."""
    apart = []
    for piece in pieces:
        if piece & mask:
            mask |= piece
        else:
            apart.append(piece)
    return apart + [mask]


def ranks_of(near):
    """The RANKS of a SIDE, near telling for each place what it is tied to."""
    told = [[]]
    for others in reversed(near):
        mask = sum([1 << other for other in others])
        told = told + [joined(pieces, mask) for pieces in told]
    return [sum([bits_of(piece) - 1 for piece in pieces]) for pieces in told]


def faced(ranks, lots):
    """The RANKS by which the ROWS are those that have the RANK on each of lots,
    a CHAIN."""
    many = len(lots[-1])
    told = [0] * len(ranks)
    ahead = 0
    # What a LOT has of one step of the CHAIN has what the steps ahead leave it.
    for lot in lots:
        mask = sum([1 << (many - 1 - place) for place in lot])
        told = [had + ranks[ahead | own & mask] - ranks[ahead] for own, had in enumerate(told)]
        ahead = mask
    return told


def rows_left(left, most, known):
    """The list, ascending, of what the last places can have to which the ones
    ahead leave these RANKS; cut off behind most. known keeps what was told."""
    key = tuple(left)
    if key in known:
        return known[key]
    half = len(left) // 2
    without, having = left[:half], left[half:]
    found = []
    if half == 1:
        found.append((having[0],))
    else:
        # With each number from the least to the greatest there is some ROW.
        for number in range(left[-1] - without[-1], having[0] + 1):
            if len(found) <= most:
                rest = [min(rank, other - number) for rank, other in zip(without, having)]
                found.extend([(number,) + own for own in rows_left(rest, most, known)])
    known[key] = found
    return found


def rows_by(ranks, most):
    """The list, ascending, of all ROWS; None if they are more than most."""
    found = rows_left(ranks, most, {})
    return found if len(found) <= most else None
