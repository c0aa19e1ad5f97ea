"""SHARES: what goes over the TIES of a TREE."""

from math import gcd

from eachhandtied.errors import CanNot
from eachhandtied.fit import fit_order, fit_pair, fit_shares, fit_side, fit_tree, fit_web
from eachhandtied.fit import good_shares, need_place, need_tie
from eachhandtied.spans import row_in, shares_along, shares_in


def share_of(web, tree, tie, side):
    """The SHARE of tie; NoTie if it is none of web, CanNot if none of tree."""
    need_tie(web, tie)
    if tie not in tree:
        raise CanNot()
    return shares_in(web, tree, side)[tie]


def pairs_of(web, tree, side):
    """The tuple of the pairs of a TIE of tree and its SHARE."""
    return tuple(zip(tree, shares_along(web, tree, tree, side)))


def share(web, tree, tie, side):
    """The SHARE of tie."""
    web = fit_web(web)
    tree, tie, side = fit_tree(web, tree), fit_pair(tie), fit_side(side)
    return share_of(web, tree, tie, side)


def tree_shares(web, tree, side):
    """The tuple of the pairs of a TIE of tree and its SHARE, ascending."""
    web = fit_web(web)
    tree, side = fit_tree(web, tree), fit_side(side)
    return pairs_of(web, tree, side)


def shares_by(web, tree, order, side):
    """The SHARES of tree by order."""
    web = fit_web(web)
    tree, order, side = fit_tree(web, tree), fit_order(web, order), fit_side(side)
    return shares_along(web, tree, order, side)


def shares_round(web, tree, side, place):
    """The SHARES of the TIES of tree at place, added up."""
    web = fit_web(web)
    tree, side, place = fit_tree(web, tree), fit_side(side), fit_pair(place)
    need_place(web, place)
    return sum([own[1] for own in pairs_of(web, tree, side) if own[0][place[0]] == place[1]])


def carried(web, tree, tie, side):
    """The SHARE of tie over the number of places on this SIDE, in least terms."""
    web = fit_web(web)
    tree, tie, side = fit_tree(web, tree), fit_pair(tie), fit_side(side)
    own = share_of(web, tree, tie, side)
    common = gcd(own, web[side])
    return own // common, web[side] // common


def is_shares(web, side, thing):
    """Whether thing is what tree_shares tells of some TREE by side."""
    web = fit_web(web)
    return good_shares(web, fit_side(side), thing)


def row_by_shares(web, side, shares):
    """The ROW by side of the TREE that has these shares."""
    web, side = fit_web(web), fit_side(side)
    return row_in(web, [own[0] for own in fit_shares(web, side, shares)], side)


def other_shares(web, side, shares):
    """What tree_shares tells of the TREE that has these shares by the other SIDE."""
    web, side = fit_web(web), fit_side(side)
    tree = tuple([own[0] for own in fit_shares(web, side, shares)])
    return pairs_of(web, tree, 1 - side)
