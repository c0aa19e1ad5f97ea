"""ROWS of TREES, and CALLS."""

from math import comb

from eachhandtied.few import few_rows, few_trees
from eachhandtied.fit import fit_row, fit_side, fit_tree, fit_web, good_call, good_row
from eachhandtied.spans import row_in


def calls_together(web, side):
    """What the numbers of each CALL of this SIDE come to together."""
    web = fit_web(web)
    return web[1 - fit_side(side)] - 1


def how_many_calls(web, side):
    """How many CALLS this SIDE has."""
    web, side = fit_web(web), fit_side(side)
    together, others = web[1 - side] - 1, web[side] - 1
    return comb(together + others, others)


def is_call(web, side, thing):
    """Whether thing is a CALL of this SIDE."""
    web = fit_web(web)
    return good_call(web, fit_side(side), thing)


def row_of(web, tree, side):
    """The ROW of tree, of this SIDE."""
    web = fit_web(web)
    tree = fit_tree(web, tree)
    return row_in(web, tree, fit_side(side))


def is_row(web, side, thing):
    """Whether thing is a ROW of web, of this SIDE."""
    web = fit_web(web)
    return good_row(web, fit_side(side), thing)


def all_rows(web, side):
    """The list, ascending, of all ROWS of this SIDE."""
    web = fit_web(web)
    return few_rows(web, fit_side(side))


def trees_with(web, side, row):
    """The list, ascending, of all TREES of which this is the ROW."""
    web, side = fit_web(web), fit_side(side)
    row = fit_row(web, side, row)
    return [tree for tree in few_trees(web) if row_in(web, tree, side) == row]
