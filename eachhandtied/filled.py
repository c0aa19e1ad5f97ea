"""FILLINGS of CALLS, and TREES that have a ROW."""

from eachhandtied.errors import CanNot
from eachhandtied.fit import fit_call, fit_filling, fit_side, fit_tree, fit_web, good_filling, good_tree
from eachhandtied.owners import tree_given
from eachhandtied.spans import row_in, shares_along


def need_tree(web, side, call):
    """A TREE whose ROW call is; CanNot if there is none."""
    found = tree_given(web, side, call)
    if not found:
        raise CanNot()
    return found


def has_row(web, side, call, thing):
    """Whether thing is a TREE whose ROW call is."""
    return good_tree(web, thing) and row_in(web, thing, side) == call


def ties_above(web, filling):
    """The TIES of web that are above 0 in filling."""
    return tuple([tie for tie, number in zip(web[2], filling) if number > 0])


def filling(web, side, call):
    """A FILLING of call."""
    web, side = fit_web(web), fit_side(side)
    tree = need_tree(web, side, fit_call(web, side, call))
    return shares_along(web, tree, web[2], side)


def is_filling(web, side, call, thing):
    """Whether thing is a FILLING of call."""
    web, side = fit_web(web), fit_side(side)
    return good_filling(web, side, fit_call(web, side, call), thing)


def tree_for(web, side, call):
    """A TREE whose ROW of this SIDE call is."""
    web, side = fit_web(web), fit_side(side)
    return need_tree(web, side, fit_call(web, side, call))


def is_tree_for(web, side, call, thing):
    """Whether thing is a TREE whose ROW of this SIDE call is."""
    web, side = fit_web(web), fit_side(side)
    return has_row(web, side, fit_call(web, side, call), thing)


def filling_by(web, side, tree):
    """The FILLING of tree's ROW that is 0 for all TIES but those of tree."""
    web, side = fit_web(web), fit_side(side)
    return shares_along(web, fit_tree(web, tree), web[2], side)


def tree_within(web, side, call, filling):
    """A TREE whose ROW call is, of TIES above 0 in filling alone."""
    web, side = fit_web(web), fit_side(side)
    call = fit_call(web, side, call)
    filling = fit_filling(web, side, call, filling)
    # These TIES alone are a WEB, of which call is a ROW.
    return tree_given((web[0], web[1], ties_above(web, filling)), side, call)


def is_tree_within(web, side, call, filling, thing):
    """Whether thing is a TREE whose ROW call is, of TIES above 0 in filling alone."""
    web, side = fit_web(web), fit_side(side)
    call = fit_call(web, side, call)
    above = ties_above(web, fit_filling(web, side, call, filling))
    return has_row(web, side, call, thing) and all([tie in above for tie in thing])
