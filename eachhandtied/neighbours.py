"""TIGHT TREES beside one another."""

from eachhandtied.costs import prices_of, under_of
from eachhandtied.errors import CanNot, NoTie
from eachhandtied.fit import fit_order, fit_pair, fit_tree, fit_web, good_tree
from eachhandtied.owners import handing_toward
from eachhandtied.spans import row_in, swapped, way_in
from eachhandtied.tightened import puts_beside


def need_tight(web, tree, by_tie):
    """Nothing; CanNot if tree is not TIGHT."""
    if under_of(web, tree, by_tie):
        raise CanNot()


def tight_puts(web, order, tree):
    """All that puts_beside tells of tree; CanNot if it is not TIGHT."""
    by_tie = prices_of(web, order)
    need_tight(web, tree, by_tie)
    return puts_beside(web, tree, by_tie)


def put_over(web, order, tree, tie):
    """The TIE that the neighbour of tree over tie has for it; NoTie if tree has
    no such TIE, CanNot if it is not TIGHT, or has no such neighbour."""
    if tie not in tree:
        raise NoTie(tie)
    puts = tight_puts(web, order, tree)
    if tie not in puts:
        raise CanNot()
    return puts[tie]


def are_beside(tree, other):
    """Whether two TREES have all TIES but one in common."""
    return len([tie for tie in tree if tie not in other]) == 1


def good_tight(web, by_tie, thing):
    """Whether thing is a TIGHT TREE."""
    return good_tree(web, thing) and not under_of(web, thing, by_tie)


def over(web, order, tree, tie):
    """The neighbour of tree without tie."""
    web = fit_web(web)
    order, tree, tie = fit_order(web, order), fit_tree(web, tree), fit_pair(tie)
    return swapped(tree, put_over(web, order, tree, tie), tie)


def all_neighbours(web, order, tree):
    """The list of the pairs (tie, over of it), ascending, for those that have one."""
    web = fit_web(web)
    order, tree = fit_order(web, order), fit_tree(web, tree)
    puts = tight_puts(web, order, tree)
    return [(tie, swapped(tree, puts[tie], tie)) for tie in tree if tie in puts]


def lone_ties(web, order, tree):
    """The set of the TIES of tree over which it has no neighbour."""
    web = fit_web(web)
    order, tree = fit_order(web, order), fit_tree(web, tree)
    puts = tight_puts(web, order, tree)
    return tuple([tie for tie in tree if tie not in puts])


def is_neighbour(web, order, tree, thing):
    """Whether thing is a neighbour of tree."""
    web = fit_web(web)
    order, tree = fit_order(web, order), fit_tree(web, tree)
    by_tie = prices_of(web, order)
    need_tight(web, tree, by_tie)
    return good_tight(web, by_tie, thing) and are_beside(tree, thing)


def handed_over(web, order, tree, tie):
    """The pair of the HANDINGS, of both SIDES, from tree to its neighbour over tie."""
    web = fit_web(web)
    order, tree, tie = fit_order(web, order), fit_tree(web, tree), fit_pair(tie)
    put = put_over(web, order, tree, tie)
    return (tie[0], put[0]), (tie[1], put[1])


def handed_on(web, by_tie, tree, handing):
    """The TIGHT TREES that come behind tree, one after another, the last one's
    ROW of the HANDS being that of tree after this HANDING."""
    found = []
    at, goal = handing
    # Over the first TIE of the WAY one HANDING goes to another HAND beyond it,
    # from which the WAY is shorter. There is such a neighbour each time: else
    # the HANDS beyond would be full, and goal could have no more.
    while at != goal:
        tie = way_in(tree, (0, at), (0, goal))[0]
        put = puts_beside(web, tree, by_tie)[tie]
        tree = swapped(tree, put, tie)
        found.append(tree)
        at = put[0]
    return found


def walked(web, order, tree, other):
    """A tuple of TIGHT TREES, tree first, other last, each next one a neighbour."""
    web = fit_web(web)
    order, tree, other = fit_order(web, order), fit_tree(web, tree), fit_tree(web, other)
    by_tie = prices_of(web, order)
    need_tight(web, tree, by_tie)
    need_tight(web, other, by_tie)
    goal = row_in(web, other, 0)
    found = [tree]
    row = row_in(web, tree, 0)
    while row != goal:
        found.extend(handed_on(web, by_tie, found[-1], handing_toward(web, 0, row, goal)))
        row = row_in(web, found[-1], 0)
    return tuple(found)


def is_walk(web, order, tree, other, thing):
    """Whether thing is such a tuple."""
    web = fit_web(web)
    order, tree, other = fit_order(web, order), fit_tree(web, tree), fit_tree(web, other)
    by_tie = prices_of(web, order)
    need_tight(web, tree, by_tie)
    need_tight(web, other, by_tie)
    if not isinstance(thing, tuple) or not thing or not all([good_tight(web, by_tie, own) for own in thing]):
        return False
    if thing[0] != tree or thing[-1] != other:
        return False
    return all([are_beside(thing[at - 1], thing[at]) for at in range(1, len(thing))])
