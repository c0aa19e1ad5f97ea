"""Prices of TIES, POTENTIALS and COSTS of TREES by an ORDER."""

from eachhandtied.costs import cost_of, gaps_of, potentials_of, prices_of, under_of
from eachhandtied.errors import CanNot
from eachhandtied.fit import fit_order, fit_pair, fit_ring, fit_side, fit_tree, fit_web, need_tie
from eachhandtied.plain import same
from eachhandtied.rings import ties_round


def price(web, order, tie):
    """The price of tie."""
    web = fit_web(web)
    order, tie = fit_order(web, order), fit_pair(tie)
    need_tie(web, tie)
    return prices_of(web, order)[tie]


def prices(web, order):
    """The tuple of the prices of all TIES, ascending by TIES."""
    web = fit_web(web)
    by_tie = prices_of(web, fit_order(web, order))
    return tuple([by_tie[tie] for tie in web[2]])


def potentials(web, tree, order):
    """The POTENTIALS of tree."""
    web = fit_web(web)
    tree, order = fit_tree(web, tree), fit_order(web, order)
    return potentials_of(web, tree, prices_of(web, order))


def is_potentials(web, tree, order, thing):
    """Whether thing are the POTENTIALS of tree."""
    web = fit_web(web)
    tree, order = fit_tree(web, tree), fit_order(web, order)
    return same(thing, potentials_of(web, tree, prices_of(web, order)))


def gap(web, tree, order, tie):
    """The price of tie less both POTENTIALS at its ends."""
    web = fit_web(web)
    tree, order, tie = fit_tree(web, tree), fit_order(web, order), fit_pair(tie)
    need_tie(web, tie)
    return gaps_of(web, tree, prices_of(web, order))[tie]


def under(web, tree, order):
    """The set of the TIES under tree."""
    web = fit_web(web)
    tree, order = fit_tree(web, tree), fit_order(web, order)
    return under_of(web, tree, prices_of(web, order))


def most_under(web, tree, order):
    """The TIE of the least gap."""
    web = fit_web(web)
    tree, order = fit_tree(web, tree), fit_order(web, order)
    gaps = gaps_of(web, tree, prices_of(web, order))
    least, tie = min([(gaps[own], own) for own in web[2]])
    if least == 0:
        raise CanNot()
    return tie


def cost(web, tree, order, side):
    """The COST of tree by side."""
    web = fit_web(web)
    tree, order, side = fit_tree(web, tree), fit_order(web, order), fit_side(side)
    return cost_of(web, tree, prices_of(web, order), side)


def is_cheaper(web, tree, other, order, side):
    """Whether the COST of tree is less than that of other."""
    web = fit_web(web)
    tree, other = fit_tree(web, tree), fit_tree(web, other)
    order, side = fit_order(web, order), fit_side(side)
    by_tie = prices_of(web, order)
    return cost_of(web, tree, by_tie, side) < cost_of(web, other, by_tie, side)


def balance(web, order, ring):
    """The prices of the TIES from each HAND of ring to the TASK behind it,
    added up, less those of the others."""
    web = fit_web(web)
    order, ring = fit_order(web, order), fit_ring(web[2], web[2], ring)
    by_tie = prices_of(web, order)
    there, back = ties_round(ring)
    return sum([by_tie[tie] for tie in there]) - sum([by_tie[tie] for tie in back])
