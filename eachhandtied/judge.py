"""One judge over DEMANDS of five kinds: PAPERS against them, REASONS for them."""

from eachhandtied.bars import room_in
from eachhandtied.chains import best_row_by, levels_of, worth_of
from eachhandtied.costs import potentials_of, prices_of, under_of
from eachhandtied.errors import Unfit
from eachhandtied.filled import has_row
from eachhandtied.fit import good_call, good_lot, good_order, good_row, good_side, good_tie, good_tree, good_web
from eachhandtied.fit import good_worths
from eachhandtied.handings import how_far_apart
from eachhandtied.joins import near_of
from eachhandtied.nearest import excess_of, farness, lot_too_full, nearest_to
from eachhandtied.owners import bar_of, tree_given
from eachhandtied.partners import partner_of
from eachhandtied.plain import is_number, same, tupled
from eachhandtied.tightened import tight_with


def row_fits(web, side, call):
    """Whether these make a DEMAND "row"."""
    return good_side(side) and good_call(web, side, call)


def row_paper(web, side, call):
    """A BAR; None if there is none."""
    return bar_of(web, side, call) or None


def row_is_paper(web, side, call, thing):
    """Whether thing is a BAR."""
    return good_lot(web, side, thing) and room_in(near_of(web, side), call, thing) < 0


def row_reason(web, side, call):
    """A TREE of which call is the ROW."""
    return tree_given(web, side, call)


def row_is_reason(web, side, call, thing):
    """Whether thing is a TREE of which call is the ROW."""
    return has_row(web, side, call, thing)


def tight_fits(web, order, tree):
    """Whether these make a DEMAND "tight"."""
    return good_order(web, order) and good_tree(web, tree)


def tight_paper(web, order, tree):
    """A TIE under tree; None if there is none."""
    found = under_of(web, tree, prices_of(web, order))
    return found[0] if found else None


def tight_is_paper(web, order, tree, thing):
    """Whether thing is a TIE under tree."""
    return good_tie(web, thing) and thing in under_of(web, tree, prices_of(web, order))


def tight_reason(web, order, tree):
    """The POTENTIALS of tree."""
    return potentials_of(web, tree, prices_of(web, order))


def tight_is_reason(web, order, tree, thing):
    """Whether thing are the POTENTIALS of tree, which is TIGHT."""
    return tight_paper(web, order, tree) is None and same(thing, tight_reason(web, order, tree))


def partner_fits(web, order, row, other):
    """Whether these make a DEMAND "partner"."""
    return good_order(web, order) and good_row(web, 0, row) and good_row(web, 1, other)


def partner_paper(web, order, row, other):
    """The PARTNER of row; None if it is other."""
    found = partner_of(web, order, 0, row)
    return found if found != other else None


def partner_is_paper(web, order, row, other, thing):
    """Whether thing is the PARTNER of row, other being none."""
    found = partner_of(web, order, 0, row)
    return found != other and same(thing, found)


def partner_reason(web, order, row, other):
    """The TIGHT TREE of which both are the ROWS."""
    return tight_with(web, order, 0, row)


def partner_is_reason(web, order, row, other, thing):
    """Whether thing is the TIGHT TREE of which both are the ROWS."""
    if partner_of(web, order, 0, row) != other:
        return False
    return same(thing, tight_with(web, order, 0, row))


def far_fits(web, side, call, number):
    """Whether these make a DEMAND "far"."""
    return row_fits(web, side, call) and is_number(number) and number >= 0


def far_paper(web, side, call, number):
    """A LOT that keeps all ROWS more than number apart; None if there is none."""
    return lot_too_full(web, side, call) if farness(web, side, call) > number else None


def far_is_paper(web, side, call, number, thing):
    """Whether thing is a LOT that does so."""
    return good_lot(web, side, thing) and excess_of(web, side, call, thing) > number


def far_reason(web, side, call, number):
    """A ROW at most number apart."""
    return nearest_to(web, side, call)


def far_is_reason(web, side, call, number, thing):
    """Whether thing is a ROW at most number apart."""
    return good_row(web, side, thing) and how_far_apart(call, thing) <= number


def worth_fits(web, side, worths, number):
    """Whether these make a DEMAND "worth"."""
    return good_side(side) and good_worths(web, side, worths) and is_number(number)


def worth_paper(web, side, worths, number):
    """A ROW worth more than number; None if there is none."""
    row = best_row_by(near_of(web, side), worths)
    return row if worth_of(row, worths) > number else None


def worth_is_paper(web, side, worths, number, thing):
    """Whether thing is a ROW worth more than number."""
    return good_row(web, side, thing) and worth_of(thing, worths) > number


def worth_reason(web, side, worths, number):
    """The LEVELS of worths."""
    return levels_of(worths)


def worth_is_reason(web, side, worths, number, thing):
    """Whether thing are the LEVELS of worths, no ROW being worth more."""
    return worth_paper(web, side, worths, number) is None and same(thing, levels_of(worths))


# By the first word of a DEMAND: how long it is, and what is asked of what
# stands in it behind this word, a PAPER or a REASON asked about at the end.
SIZES = {"row": 4, "tight": 4, "partner": 5, "far": 5, "worth": 5}
FITS = {"row": row_fits, "tight": tight_fits, "partner": partner_fits, "far": far_fits, "worth": worth_fits}
PAPERS = {
    "row": row_paper,
    "tight": tight_paper,
    "partner": partner_paper,
    "far": far_paper,
    "worth": worth_paper,
}
ARE_PAPERS = {
    "row": row_is_paper,
    "tight": tight_is_paper,
    "partner": partner_is_paper,
    "far": far_is_paper,
    "worth": worth_is_paper,
}
REASONS = {
    "row": row_reason,
    "tight": tight_reason,
    "partner": partner_reason,
    "far": far_reason,
    "worth": worth_reason,
}
ARE_REASONS = {
    "row": row_is_reason,
    "tight": tight_is_reason,
    "partner": partner_is_reason,
    "far": far_is_reason,
    "worth": worth_is_reason,
}


def good_demand(thing):
    """Whether thing is a DEMAND."""
    if not isinstance(thing, tuple) or not thing or not isinstance(thing[0], str):
        return False
    if thing[0] not in SIZES or len(thing) != SIZES[thing[0]] or not good_web(thing[1]):
        return False
    fits = FITS[thing[0]]
    rest = thing[1:]
    return fits(*rest)


def fit_demand(demand):
    """demand, if it is one."""
    told = tupled(demand, 4)
    if not good_demand(told):
        raise Unfit()
    return told


def paper_of(demand):
    """A PAPER against demand; None if it stands."""
    find = PAPERS[demand[0]]
    rest = demand[1:]
    return find(*rest)


def is_demand(thing):
    """Whether thing is a DEMAND."""
    return good_demand(thing)


def is_so(demand):
    """Whether demand stands."""
    return paper_of(fit_demand(demand)) is None


def paper_against(demand):
    """A PAPER against demand; None if it stands."""
    return paper_of(fit_demand(demand))


def is_paper_against(demand, thing):
    """Whether thing is a PAPER against demand."""
    told = fit_demand(demand)
    judge = ARE_PAPERS[told[0]]
    rest = told[1:]
    return judge(*rest, thing)


def reason_for(demand):
    """A REASON for demand; None if it does not stand."""
    told = fit_demand(demand)
    if paper_of(told) is not None:
        return None
    find = REASONS[told[0]]
    rest = told[1:]
    return find(*rest)


def is_reason_for(demand, thing):
    """Whether thing is a REASON for demand."""
    told = fit_demand(demand)
    judge = ARE_REASONS[told[0]]
    rest = told[1:]
    return judge(*rest, thing)


def first_fallen(demands):
    """The number of the first of demands that does not stand; None if all do."""
    told = tupled(demands, 5)
    if not isinstance(told, tuple) or not all([good_demand(own) for own in told]):
        raise Unfit()
    for at, demand in enumerate(told):
        if paper_of(demand) is not None:
            return at
    return None
