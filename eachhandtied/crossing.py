"""CROSSINGS of two TREES."""

from eachhandtied.errors import CanNot
from eachhandtied.fit import fit_order, fit_ring, fit_tree, fit_web
from eachhandtied.rings import is_ring, ring_over, ties_round


def some_crossing(tree, other):
    """A CROSSING of tree and other; () if there is none."""
    for tie in tree:
        ring = ring_over(tree, other, tie)
        if ring:
            return ring
    return ()


def crossing(web, tree, other):
    """A CROSSING of tree and other."""
    web = fit_web(web)
    found = some_crossing(fit_tree(web, tree), fit_tree(web, other))
    if not found:
        raise CanNot()
    return found


def is_crossing(web, tree, other, thing):
    """Whether thing is a CROSSING of tree and other."""
    web = fit_web(web)
    return is_ring(fit_tree(web, tree), fit_tree(web, other), thing)


def can_cross(web, tree, other):
    """Whether there is a CROSSING of tree and other."""
    web = fit_web(web)
    return some_crossing(fit_tree(web, tree), fit_tree(web, other)) != ()


def crossed_ties(web, tree, other):
    """The set of the TIES of tree over which some CROSSING goes from their HAND
    to their TASK."""
    web = fit_web(web)
    tree, other = fit_tree(web, tree), fit_tree(web, other)
    return tuple([tie for tie in tree if ring_over(tree, other, tie)])


def crossing_ties(web, tree, other, ring):
    """The pair of the sets of the TIES over which ring goes from HAND to TASK,
    and of those over which it goes from TASK to HAND."""
    web = fit_web(web)
    there, back = ties_round(fit_ring(fit_tree(web, tree), fit_tree(web, other), ring))
    return tuple(sorted(there)), tuple(sorted(back))


def slack_one(web, order, tree, other, ring):
    """0 if the dearest of all these TIES is one of tree, 1 if it is one of other."""
    web = fit_web(web)
    order, tree, other = fit_order(web, order), fit_tree(web, tree), fit_tree(web, other)
    there, back = ties_round(fit_ring(tree, other, ring))
    dearest = [tie for tie in order if tie in there or tie in back][0]
    return 0 if dearest in there else 1


def gone_back(web, tree, other, ring):
    """The CROSSING of other and tree over the same TIES the other way."""
    web = fit_web(web)
    ring = fit_ring(fit_tree(web, tree), fit_tree(web, other), ring)
    return ring[:1] + ring[:0:-1]
