"""WORTHS of places, and the ROWS that are dearest by them."""

from eachhandtied.chains import best_row_by, levels_of, worth_of
from eachhandtied.errors import CanNot
from eachhandtied.few import few_best
from eachhandtied.fit import fit_row, fit_side, fit_web, fit_worths, good_handing, good_row
from eachhandtied.handings import hands_on
from eachhandtied.joins import near_of
from eachhandtied.owners import least_full_with


def greatest_worth(web, side, worths):
    """What a dearest ROW is worth."""
    return worth_of(best_row_by(near_of(web, side), worths), worths)


def worth(web, side, row, worths):
    """The worth of row."""
    web, side = fit_web(web), fit_side(side)
    row, worths = fit_row(web, side, row), fit_worths(web, side, worths)
    return worth_of(row, worths)


def best_worth(web, side, worths):
    """The worth of the dearest ROWS."""
    web, side = fit_web(web), fit_side(side)
    return greatest_worth(web, side, fit_worths(web, side, worths))


def best_row(web, side, worths):
    """A dearest ROW."""
    web, side = fit_web(web), fit_side(side)
    return best_row_by(near_of(web, side), fit_worths(web, side, worths))


def is_best_row(web, side, worths, thing):
    """Whether thing is a dearest ROW."""
    web, side = fit_web(web), fit_side(side)
    worths = fit_worths(web, side, worths)
    return good_row(web, side, thing) and worth_of(thing, worths) == greatest_worth(web, side, worths)


def all_best(web, side, worths):
    """The list, ascending, of all dearest ROWS."""
    web, side = fit_web(web), fit_side(side)
    return few_best(web, side, fit_worths(web, side, worths))


def levels(web, side, worths):
    """The LEVELS of worths."""
    web, side = fit_web(web), fit_side(side)
    return levels_of(fit_worths(web, side, worths))


def better(web, side, row, worths):
    """A HANDING of row to a place of greater worth than that which it is from."""
    web, side = fit_web(web), fit_side(side)
    row, worths = fit_row(web, side, row), fit_worths(web, side, worths)
    for more in range(web[side]):
        for less in least_full_with(web, side, row, more):
            if worths[less] < worths[more]:
                return less, more
    raise CanNot()


def is_better(web, side, row, worths, thing):
    """Whether thing is such a HANDING."""
    web, side = fit_web(web), fit_side(side)
    row, worths = fit_row(web, side, row), fit_worths(web, side, worths)
    if not good_handing(web, side, thing) or worths[thing[0]] >= worths[thing[1]]:
        return False
    return hands_on(web, side, row, thing)
