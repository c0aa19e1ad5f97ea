"""How many ROWS there are."""

from math import comb

from eachhandtied.errors import Unfit
from eachhandtied.few import few_rows, how_few_rows
from eachhandtied.fit import fit_between, fit_limits, fit_number, fit_pair, fit_side, fit_web, need_place
from eachhandtied.joins import near_of, rank_of

# The greatest sizes that are let: for a WEB that is told, its TIES, and for
# numbers of ROWS and TREES.
MOST_PLACES = 12
MOST_TIES = 60
MOST_COUNTED = 1000


def fit_place(web, place):
    """place, if it is a PLACE of web; Unfit if it is no pair, else NoPlace."""
    told = fit_pair(place)
    need_place(web, told)
    return told


def numbers_at(web, place):
    """The list of the numbers that the ROWS have at place."""
    return [row[place[1]] for row in few_rows(web, place[0])]


def most_number(web, place):
    """The greatest number at place in a ROW."""
    return len([tie for tie in web[2] if tie[place[0]] == place[1]]) - 1


def power(base, many):
    """base so many times by itself."""
    told = 1
    for k in range(many):
        told *= base
    return told


def many_rows(web, side):
    """How many ROWS there are."""
    web = fit_web(web)
    fit_side(side)
    return how_few_rows(web)


def many_with(web, place, number):
    """How many ROWS have number at place."""
    web, place, number = fit_web(web), fit_pair(place), fit_number(number)
    need_place(web, place)
    return numbers_at(web, place).count(number)


def counts_at(web, place):
    """For each number from 0 to most_at how many ROWS have it at place."""
    web = fit_web(web)
    place = fit_place(web, place)
    numbers = numbers_at(web, place)
    return tuple([numbers.count(own) for own in range(most_number(web, place) + 1)])


def most_at(web, place):
    """The greatest number at place in a ROW."""
    web = fit_web(web)
    return most_number(web, fit_place(web, place))


def least_at(web, place):
    """The least number at place in a ROW."""
    web = fit_web(web)
    side, number = fit_place(web, place)
    others = [own for own in range(web[side]) if own != number]
    return web[1 - side] - 1 - rank_of(near_of(web, side), others)


def many_below(web, side, limits):
    """How many ROWS are nowhere above limits."""
    web, side = fit_web(web), fit_side(side)
    limits = fit_limits(web, side, limits)
    return len([row for row in few_rows(web, side) if all([own <= most for own, most in zip(row, limits)])])


def many_above(web, side, limits):
    """How many ROWS are nowhere below limits."""
    web, side = fit_web(web), fit_side(side)
    limits = fit_limits(web, side, limits)
    return len([row for row in few_rows(web, side) if all([own >= least for own, least in zip(row, limits)])])


def whole_web(many, number):
    """The WEB of many HANDS, each tied to each of number TASKS."""
    many, number = fit_between(many, 1, MOST_PLACES), fit_between(number, 1, MOST_PLACES)
    if many * number > MOST_TIES:
        raise Unfit()
    return many, number, tuple([(hand, task) for hand in range(many) for task in range(number)])


def whole_rows(many, number):
    """How many ROWS this WEB has."""
    many, number = fit_between(many, 1, MOST_COUNTED), fit_between(number, 1, MOST_COUNTED)
    # As each is tied to all, all CALLS are ROWS.
    return comb(many + number - 2, many - 1)


def whole_trees(many, number):
    """How many TREES this WEB has."""
    many, number = fit_between(many, 1, MOST_COUNTED), fit_between(number, 1, MOST_COUNTED)
    return power(many, number - 1) * power(number, many - 1)


def ring_web(many):
    """The WEB of many HANDS and TASKS that are tied in a ring."""
    many = fit_between(many, 2, MOST_PLACES)
    ties = [(hand, task) for hand in range(many) for task in (hand, (hand + 1) % many)]
    return many, many, tuple(sorted(ties))


def ring_rows(many):
    """How many ROWS this WEB has."""
    # A TREE is without one TIE, and its ROW has 0 at the end of this alone.
    return fit_between(many, 2, MOST_COUNTED)
