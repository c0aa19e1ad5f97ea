"""TIGHT TREES, and how TREES fall."""

from eachhandtied.costs import prices_of, under_of
from eachhandtied.errors import CanNot, TooMany
from eachhandtied.fit import fit_fall, fit_order, fit_pair, fit_row, fit_side, fit_tree, fit_web, need_tie
from eachhandtied.plain import MOST_TOLD, same
from eachhandtied.spans import shares_in, swapped, way_round
from eachhandtied.tightened import tight_with


def losing_of(tree, put):
    """The TIES of tree that lose if put is put, as they stand on the WAY."""
    return way_round(tree, put)[::2]


def fall_with(web, side, tree, put):
    """The FALL of tree that puts put."""
    shares = shares_in(web, tree, side)
    _, out = min([(shares[tie], tie) for tie in losing_of(tree, put)])
    return put, out


def falls_of(web, order, side, tree):
    """The list, ascending, of the FALLS of tree."""
    return [fall_with(web, side, tree, put) for put in under_of(web, tree, prices_of(web, order))]


def is_tight(web, order, tree):
    """Whether tree is TIGHT."""
    web = fit_web(web)
    order, tree = fit_order(web, order), fit_tree(web, tree)
    return not under_of(web, tree, prices_of(web, order))


def losing(web, order, tree, tie):
    """The TIES that lose if tie, one under tree, is put."""
    web = fit_web(web)
    order, tree, tie = fit_order(web, order), fit_tree(web, tree), fit_pair(tie)
    need_tie(web, tie)
    if tie not in under_of(web, tree, prices_of(web, order)):
        raise CanNot()
    return losing_of(tree, tie)


def all_falls(web, order, side, tree):
    """The list, ascending, of the FALLS of tree."""
    web = fit_web(web)
    order, side, tree = fit_order(web, order), fit_side(side), fit_tree(web, tree)
    return falls_of(web, order, side, tree)


def is_fall(web, order, side, tree, thing):
    """Whether thing is a FALL of tree."""
    web = fit_web(web)
    order, side, tree = fit_order(web, order), fit_side(side), fit_tree(web, tree)
    return any([same(thing, own) for own in falls_of(web, order, side, tree)])


def fallen(web, order, side, tree, fall):
    """The TREE fallen by fall."""
    web = fit_web(web)
    order, side, tree = fit_order(web, order), fit_side(side), fit_tree(web, tree)
    fall = fit_fall(web, fall)
    if fall not in falls_of(web, order, side, tree):
        raise CanNot()
    return swapped(tree, *fall)


def falls_down(web, order, side, tree):
    """The list of the TREES from tree to the TIGHT one, each but the first
    fallen by the FALL of the one ahead that puts the TIE first in order."""
    web = fit_web(web)
    order, side, tree = fit_order(web, order), fit_side(side), fit_tree(web, tree)
    by_tie = prices_of(web, order)
    found = [tree]
    puts = under_of(web, tree, by_tie)
    while puts:
        if len(found) == MOST_TOLD:
            raise TooMany()
        _, put = max([(by_tie[tie], tie) for tie in puts])
        fall = fall_with(web, side, tree, put)
        tree = swapped(tree, *fall)
        found.append(tree)
        puts = under_of(web, tree, by_tie)
    return found


def tight_tree(web, order, side, row):
    """The TIGHT TREE with this ROW."""
    web = fit_web(web)
    order, side = fit_order(web, order), fit_side(side)
    return tight_with(web, order, side, fit_row(web, side, row))


def is_tightest(web, order, side, tree):
    """Whether tree has the least SHARES of all TREES with its ROW of side."""
    web = fit_web(web)
    order, side, tree = fit_order(web, order), fit_side(side), fit_tree(web, tree)
    # That one is the TIGHT one, whichever the SIDE.
    return not under_of(web, tree, prices_of(web, order))
