"""The ROWS that are nearest to a CALL."""

from eachhandtied.bars import together
from eachhandtied.chains import least_row
from eachhandtied.errors import CanNot
from eachhandtied.few import few_rows
from eachhandtied.fit import fit_call, fit_lot, fit_side, fit_web, good_handing, good_lot, good_row
from eachhandtied.handings import how_far_apart, shifted
from eachhandtied.joins import near_of, rank_of
from eachhandtied.owners import given, handed_to, least_full_with, row_held


def excess_of(web, side, call, lot):
    """The excess of lot."""
    return together(call, lot) - rank_of(near_of(web, side), lot)


def nearest_to(web, side, call):
    """A ROW than which none is nearer to call."""
    near = near_of(web, side)
    row = least_row(near)
    owner = given(near, web[1 - side], row)
    place = 0
    # A place that lacks some and that none which has too much can hand on to
    # lies in a full LOT without such: none of it can come to have more later.
    while place < len(call):
        givers = [own for own in range(len(call)) if row[own] > call[own]]
        held = handed_to(near, owner, place, givers) if row[place] < call[place] else None
        if held is None:
            place += 1
        else:
            owner = held
            row = row_held(near, owner)
    return row


def farness(web, side, call):
    """By how much call is far."""
    return how_far_apart(call, nearest_to(web, side, call))


def lot_too_full(web, side, call):
    """A LOT whose excess is how far call is; () if it is a ROW."""
    row = nearest_to(web, side, call)
    lots = [least_full_with(web, side, row, place) for place in range(len(call)) if row[place] < call[place]]
    # These LOTS have as much as any ROW, yet less than call, by all that a
    # nearest ROW lacks.
    return tuple(sorted({place for lot in lots for place in lot}))


def leads_to_row(web, side, call, pairs):
    """Whether call comes to be a ROW by pairs, never below 0."""
    for pair in pairs:
        if call[pair[0]] == 0:
            return False
        call = shifted(call, pair)
    return good_row(web, side, call)


def how_far(web, side, call):
    """By how much call is far."""
    web, side = fit_web(web), fit_side(side)
    return farness(web, side, fit_call(web, side, call))


def excess(web, side, call, lot):
    """The excess of lot."""
    web, side = fit_web(web), fit_side(side)
    call, lot = fit_call(web, side, call), fit_lot(web, side, lot)
    return excess_of(web, side, call, lot)


def nearest_row(web, side, call):
    """A ROW than which none is nearer to call."""
    web, side = fit_web(web), fit_side(side)
    return nearest_to(web, side, fit_call(web, side, call))


def is_nearest(web, side, call, thing):
    """Whether thing is a ROW than which none is nearer to call."""
    web, side = fit_web(web), fit_side(side)
    call = fit_call(web, side, call)
    return good_row(web, side, thing) and how_far_apart(call, thing) == farness(web, side, call)


def all_nearest(web, side, call):
    """The list, ascending, of all ROWS than which none is nearer to call."""
    web, side = fit_web(web), fit_side(side)
    call = fit_call(web, side, call)
    rows = few_rows(web, side)
    least = min([how_far_apart(call, row) for row in rows])
    return [row for row in rows if how_far_apart(call, row) == least]


def why_far(web, side, call):
    """A LOT whose excess is how far call is."""
    web, side = fit_web(web), fit_side(side)
    found = lot_too_full(web, side, fit_call(web, side, call))
    if not found:
        raise CanNot()
    return found


def is_why_far(web, side, call, thing):
    """Whether thing is a LOT whose excess is how far call, no ROW, is."""
    web, side = fit_web(web), fit_side(side)
    call = fit_call(web, side, call)
    far = farness(web, side, call)
    return far > 0 and good_lot(web, side, thing) and excess_of(web, side, call, thing) == far


def mending(web, side, call):
    """A MENDING of call."""
    web, side = fit_web(web), fit_side(side)
    call = fit_call(web, side, call)
    row = nearest_to(web, side, call)
    more = [place for place in range(len(call)) for k in range(call[place] - row[place])]
    less = [place for place in range(len(call)) for k in range(row[place] - call[place])]
    return tuple(zip(more, less))


def is_mending(web, side, call, thing):
    """Whether thing is a MENDING of call."""
    web, side = fit_web(web), fit_side(side)
    call = fit_call(web, side, call)
    if not isinstance(thing, tuple) or len(thing) != farness(web, side, call):
        return False
    return all([good_handing(web, side, own) for own in thing]) and leads_to_row(web, side, call, thing)
