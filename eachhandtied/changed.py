"""WEBS made of other ones: exchanged, renamed, glued, with more."""

from eachhandtied.errors import CanNot, Unfit
from eachhandtied.fit import fit_names, fit_pair, fit_row, fit_side, fit_tree, fit_web
from eachhandtied.fit import need_both_ends, need_place


def turned(ties):
    """The set of the TIES with their ends exchanged."""
    return tuple(sorted([(task, hand) for hand, task in ties]))


def exchanged(web):
    """The WEB whose HANDS are the TASKS of web, and the other way about."""
    many, number, ties = fit_web(web)
    return number, many, turned(ties)


def tree_exchanged(web, tree):
    """The TREE of exchanged(web) that tree comes to be."""
    return turned(fit_tree(fit_web(web), tree))


def renamed(web, hands, tasks):
    """web with HAND h named hands[h], TASK t named tasks[t]."""
    many, number, ties = fit_web(web)
    hands, tasks = fit_names(many, hands), fit_names(number, tasks)
    return many, number, tuple(sorted([(hands[hand], tasks[task]) for hand, task in ties]))


def row_renamed(web, side, row, names):
    """row with the number of place k at the place names[k]."""
    web, side = fit_web(web), fit_side(side)
    row, names = fit_row(web, side, row), fit_names(web[side], names)
    told = [0] * len(row)
    for place, number in enumerate(row):
        told[names[place]] = number
    return tuple(told)


def names_glued(first, many, number, goal):
    """The numbers that so many of a SIDE get behind those from 0 below first,
    goal of them getting number."""
    ahead = [first + own for own in range(goal)]
    behind = [first + own - 1 for own in range(goal + 1, many)]
    return ahead + [number] + behind


def glued(web, place, other, goal):
    """Both as one WEB, in which goal of other is place of web."""
    web, place = fit_web(web), fit_pair(place)
    other, goal = fit_web(other), fit_pair(goal)
    if place[0] != goal[0]:
        raise Unfit()
    need_place(web, place)
    need_place(other, goal)
    side = place[0]
    names = {
        side: names_glued(web[side], other[side], place[1], goal[1]),
        1 - side: [web[1 - side] + own for own in range(other[1 - side])],
    }
    many = [web[0] + other[0], web[1] + other[1]]
    many[side] -= 1
    ties = [(names[0][hand], names[1][task]) for hand, task in other[2]]
    return many[0], many[1], tuple(sorted(list(web[2]) + ties))


def tie_more(web, tie):
    """web with tie, too."""
    web, tie = fit_web(web), fit_pair(tie)
    need_both_ends(web, tie)
    many, number, ties = web
    if tie in ties:
        raise CanNot()
    return many, number, tuple(sorted(list(ties) + [tie]))


def leaf_more(web, place):
    """web with one more on the other SIDE, tied to place alone."""
    web, place = fit_web(web), fit_pair(place)
    need_place(web, place)
    many, number, ties = web
    if place[0] == 0:
        return many, number + 1, tuple(sorted(list(ties) + [(place[1], number)]))
    return many + 1, number, ties + ((many, place[1]),)
