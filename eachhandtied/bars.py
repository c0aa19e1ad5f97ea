"""BARS of CALLS, and LOTS that are full for ROWS."""

from itertools import combinations

from eachhandtied.errors import CanNot, NoPlace, TooMany
from eachhandtied.fit import fit_call, fit_lot, fit_number, fit_row, fit_side, fit_web, good_lot, good_place
from eachhandtied.joins import met_by, near_of, rank_of
from eachhandtied.owners import bar_of, given, least_full_with, owners_with, reached
from eachhandtied.plain import MOST_TOLD


def together(call, lot):
    """What the numbers of lot come to."""
    return sum([call[place] for place in lot])


def room_in(near, call, lot):
    """The room of lot for call."""
    return len(met_by(near, lot)) - 1 - together(call, lot)


def is_bar(web, side, call, thing):
    """Whether thing is a BAR of call."""
    web, side = fit_web(web), fit_side(side)
    call = fit_call(web, side, call)
    return good_lot(web, side, thing) and room_in(near_of(web, side), call, thing) < 0


def bar(web, side, call):
    """A BAR of call."""
    web, side = fit_web(web), fit_side(side)
    found = bar_of(web, side, fit_call(web, side, call))
    if not found:
        raise CanNot()
    return found


def least_bar(web, side, call):
    """Of the BARS of call with the fewest places the least."""
    web, side = fit_web(web), fit_side(side)
    call = fit_call(web, side, call)
    near = near_of(web, side)
    found = bar_of(web, side, call)
    # A place with 0 is in none of these: the others would be a BAR without it.
    places = [place for place in range(web[side]) if call[place] > 0]
    for many in range(1, len(found) + 1):
        for lot in combinations(places, many):
            if room_in(near, call, lot) < 0:
                return lot
    raise CanNot()


def room(web, side, call, lot):
    """The room of lot for call."""
    web, side = fit_web(web), fit_side(side)
    call = fit_call(web, side, call)
    return room_in(near_of(web, side), call, fit_lot(web, side, lot))


def full_lots(web, side, row):
    """The list, ascending, of all LOTS that are full for row."""
    web, side = fit_web(web), fit_side(side)
    row = fit_row(web, side, row)
    near = near_of(web, side)
    owner = given(near, web[1 - side], row)
    found = []
    for place in range(web[side]):
        fuller = owners_with(near, owner, place)
        needs = [mask_of(reached(near, fuller, own)) for own in range(web[side])]
        found.extend(full_from(needs, place))
        if len(found) > MOST_TOLD:
            raise TooMany()
    return sorted([lot_of(mask) for mask in found])


def mask_of(lot):
    """lot as a number, a bit for each place."""
    return sum([1 << place for place in lot])


def lot_of(mask):
    """The LOT of the bits of mask."""
    return tuple([place for place in range(mask.bit_length()) if mask >> place & 1])


def full_from(needs, first):
    """The list, as masks, of the full LOTS whose first place is first, needs
    telling what each place needs beside it; cut off behind MOST_TOLD."""
    below = (1 << first) - 1
    if needs[first] & below:
        return []
    found = []
    # Each step has places, bars others, and asks of the next one; what it has
    # is full and free of what it bars, so a LOT comes of each.
    waiting = [(needs[first], below, first + 1)]
    while waiting and len(found) <= MOST_TOLD:
        has, barred, at = waiting.pop()
        if at == len(needs):
            found.append(has)
            continue
        if not has >> at & 1:
            waiting.append((has, barred | 1 << at, at + 1))
        if not needs[at] & barred:
            waiting.append((has | needs[at], barred, at + 1))
    return found


def least_full(web, side, row, number):
    """The least LOT with this place that is full for row."""
    web, side = fit_web(web), fit_side(side)
    row, number = fit_row(web, side, row), fit_number(number)
    if not good_place(web, (side, number)):
        raise NoPlace((side, number))
    return least_full_with(web, side, row, number)


def most_more(web, side, row, lot):
    """How much more than in row the numbers of lot come to in some ROW."""
    web, side = fit_web(web), fit_side(side)
    row, lot = fit_row(web, side, row), fit_lot(web, side, lot)
    # No ROW has more on lot than its RANK, and some ROW has as much.
    return rank_of(near_of(web, side), lot) - together(row, lot)
