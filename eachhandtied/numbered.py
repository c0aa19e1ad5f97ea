"""ROWS by number: which begin with given numbers, and which stand where."""

from eachhandtied.begun import filled, least_beginning, next_ahead, next_behind, places_behind
from eachhandtied.chains import greatest_row, least_row
from eachhandtied.errors import CanNot, TooMany
from eachhandtied.few import few_rows
from eachhandtied.fit import fit_beginning, fit_natural, fit_row, fit_side, fit_web
from eachhandtied.joins import near_of

# rows_from tells no longer list.
MOST_FROM = 200


def can_begin(web, side, numbers):
    """Whether some ROW begins with numbers."""
    web, side = fit_web(web), fit_side(side)
    numbers = fit_beginning(web, side, numbers)
    return least_beginning(near_of(web, side), web[1 - side], numbers) is not None


def next_span(web, side, numbers):
    """The pair of the least and the greatest number that comes next in ROWS
    that begin with numbers."""
    web, side = fit_web(web), fit_side(side)
    numbers = fit_beginning(web, side, numbers)
    near, place = near_of(web, side), len(numbers)
    owner = least_beginning(near, web[1 - side], numbers)
    if owner is None or place == web[side]:
        raise CanNot()
    fullest = filled(near, owner, place, places_behind(near, place))
    return owner.count(place), fullest.count(place)


def row_at(web, side, number):
    """The ROW with this number."""
    web, side = fit_web(web), fit_side(side)
    number = fit_natural(number)
    found = few_rows(web, side)
    if number >= len(found):
        raise CanNot()
    return found[number]


def row_number(web, side, row):
    """The number of row."""
    web, side = fit_web(web), fit_side(side)
    row = fit_row(web, side, row)
    return few_rows(web, side).index(row)


def first_row(web, side):
    """The ROW ahead of all."""
    web = fit_web(web)
    return least_row(near_of(web, fit_side(side)))


def last_row(web, side):
    """The ROW behind all."""
    web = fit_web(web)
    return greatest_row(near_of(web, fit_side(side)))


def next_row(web, side, row):
    """The ROW behind row."""
    web, side = fit_web(web), fit_side(side)
    found = next_behind(near_of(web, side), web[1 - side], fit_row(web, side, row))
    if not found:
        raise CanNot()
    return found


def row_ahead(web, side, row):
    """The ROW ahead of row."""
    web, side = fit_web(web), fit_side(side)
    found = next_ahead(near_of(web, side), web[1 - side], fit_row(web, side, row))
    if not found:
        raise CanNot()
    return found


def rows_from(web, side, row, many):
    """The list of row and those behind it, at most so many together."""
    web, side = fit_web(web), fit_side(side)
    row, many = fit_row(web, side, row), fit_natural(many)
    if many > MOST_FROM:
        raise TooMany()
    near = near_of(web, side)
    found = []
    while row and len(found) < many:
        found.append(row)
        row = next_behind(near, web[1 - side], row)
    return found
