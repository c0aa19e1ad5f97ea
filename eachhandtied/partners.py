"""PARTNERS: ROWS of both SIDES matched by an ORDER."""

from eachhandtied.costs import prices_of, under_of
from eachhandtied.few import few_tight
from eachhandtied.fit import fit_order, fit_pair, fit_row, fit_side, fit_web, need_tie
from eachhandtied.plain import same
from eachhandtied.spans import row_in
from eachhandtied.tightened import tight_with


def partner_of(web, order, side, row):
    """The PARTNER of row."""
    return row_in(web, tight_with(web, order, side, row), 1 - side)


def matched(web, order):
    """The list, ascending, of the pairs of a ROW of the HANDS and its PARTNER."""
    return sorted([(row_in(web, tree, 0), row_in(web, tree, 1)) for tree in few_tight(web, order)])


def turned_by(web, order, other):
    """The list, ascending, of the ROWS of the HANDS that have unlike PARTNERS."""
    ours, theirs = matched(web, order), matched(web, other)
    # Both have the same ROWS of the HANDS, in the same order.
    return [own[0] for own, another in zip(ours, theirs) if own != another]


def partner(web, order, side, row):
    """The PARTNER of row."""
    web = fit_web(web)
    order, side = fit_order(web, order), fit_side(side)
    return partner_of(web, order, side, fit_row(web, side, row))


def are_partners(web, order, side, row, goal):
    """Whether goal is the PARTNER of row."""
    web = fit_web(web)
    order, side = fit_order(web, order), fit_side(side)
    row, goal = fit_row(web, side, row), fit_row(web, 1 - side, goal)
    return partner_of(web, order, side, row) == goal


def all_tight(web, order):
    """The list, ascending, of all TIGHT TREES."""
    web = fit_web(web)
    return few_tight(web, fit_order(web, order))


def partners(web, order):
    """The list, ascending, of the pairs of a ROW of the HANDS and its PARTNER."""
    web = fit_web(web)
    return matched(web, fit_order(web, order))


def is_matched(web, order, thing):
    """Whether thing is the tuple of these pairs, ascending."""
    web = fit_web(web)
    return same(thing, tuple(matched(web, fit_order(web, order))))


def tie_tight(web, order, tie):
    """The list, ascending, of the ROWS of the HANDS whose TIGHT TREES have tie."""
    web = fit_web(web)
    order, tie = fit_order(web, order), fit_pair(tie)
    need_tie(web, tie)
    return sorted([row_in(web, tree, 0) for tree in few_tight(web, order) if tie in tree])


def led_unlike(web, order, other):
    """The list, ascending, of the ROWS of the HANDS with unlike PARTNERS."""
    web = fit_web(web)
    order, other = fit_order(web, order), fit_order(web, other)
    return turned_by(web, order, other)


def order_leads_alike(web, order, other):
    """Whether all ROWS have the same PARTNERS by order and by other."""
    web = fit_web(web)
    order, other = fit_order(web, order), fit_order(web, other)
    return not turned_by(web, order, other)


def alike_trees(web, order, other):
    """The list, ascending, of the TREES that are TIGHT by both."""
    web = fit_web(web)
    order, other = fit_order(web, order), fit_order(web, other)
    by_tie = prices_of(web, other)
    return [tree for tree in few_tight(web, order) if not under_of(web, tree, by_tie)]
