"""TREES of a WEB."""

from eachhandtied.errors import CanNot
from eachhandtied.few import few_trees
from eachhandtied.fit import fit_pair, fit_side, fit_tree, fit_web, good_tree, need_place, need_tie
from eachhandtied.spans import first_tree, how_many_trees, part_in, steps_of, swapped, way_in, way_round


def is_tree(web, thing):
    """Whether thing is a TREE of web."""
    return good_tree(fit_web(web), thing)


def some_tree(web):
    """A TREE of web."""
    return first_tree(fit_web(web))


def many_trees(web):
    """How many TREES web has."""
    return how_many_trees(fit_web(web))


def all_trees(web):
    """The list, ascending, of all TREES of web."""
    return few_trees(fit_web(web))


def way(web, tree, place, other):
    """The WAY in tree from place to other."""
    web = fit_web(web)
    tree = fit_tree(web, tree)
    place, other = fit_pair(place), fit_pair(other)
    need_place(web, place)
    need_place(web, other)
    return way_in(tree, place, other)


def part(web, tree, tie, side):
    """The PART of tree and tie by this SIDE, as the set of its PLACES."""
    web = fit_web(web)
    tree, tie, side = fit_tree(web, tree), fit_pair(tie), fit_side(side)
    need_tie(web, tie)
    if tie not in tree:
        raise CanNot()
    return part_in(tree, tie, side)


def closes(web, tree, tie):
    """The WAY in tree from the HAND of tie to its TASK."""
    web = fit_web(web)
    tree, tie = fit_tree(web, tree), fit_pair(tie)
    need_tie(web, tie)
    if tie in tree:
        raise CanNot()
    return way_round(tree, tie)


def changed(web, tree, put, out):
    """The TREE with put in the place of out."""
    web = fit_web(web)
    tree, put, out = fit_tree(web, tree), fit_pair(put), fit_pair(out)
    need_tie(web, put)
    need_tie(web, out)
    # The WAY round put is put alone if that is of tree.
    if put in tree or out not in way_round(tree, put):
        raise CanNot()
    return swapped(tree, put, out)


def ends_of(web, tree):
    """The set of the PLACES with just one TIE of tree."""
    steps = steps_of(fit_tree(fit_web(web), tree))
    return tuple(sorted([place for place in steps if len(steps[place]) == 1]))
