"""CHAINS of LOTS, and the ROW that comes to the RANK on each LOT of one."""

from eachhandtied.joins import rank_of


def row_by_turn(near, places):
    """The ROW in which the first of places, all of a SIDE, has the most, then
    the next one, and so on; near tells what each is tied to."""
    row = [0] * len(near)
    ahead = 0
    for at, place in enumerate(places):
        rank = rank_of(near, places[:at + 1])
        row[place] = rank - ahead
        ahead = rank
    return tuple(row)


def worth_of(row, worths):
    """What the numbers of row are worth."""
    return sum([number * own for number, own in zip(row, worths)])


def levels_of(worths):
    """The LEVELS of worths."""
    steps = sorted(set(worths))
    return tuple([tuple([place for place, own in enumerate(worths) if own >= step]) for step in steps[::-1]])


def best_row_by(near, worths):
    """A dearest ROW: the places of the greatest worth have the most."""
    falling = sorted([(-own, place) for place, own in enumerate(worths)])
    return row_by_turn(near, [own[1] for own in falling])


def least_row(near):
    """The least ROW: the last places have the most."""
    return row_by_turn(near, list(range(len(near)))[::-1])


def greatest_row(near):
    """The greatest ROW: the first places have the most."""
    return row_by_turn(near, list(range(len(near))))
