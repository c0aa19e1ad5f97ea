"""Arguments as they have to be: each fit_ gives its argument with tuples for
lists, or raises Unfit; each good_ asks a value that has tuples already."""

from eachhandtied.errors import NoPlace, NoTie, Unfit
from eachhandtied.joins import holds
from eachhandtied.plain import are_numbers, is_number, is_pair, rises, tupled


def good_ties(many, number, thing):
    """Whether thing is a tuple of pairs (hand, task) of so many of both."""
    if not isinstance(thing, tuple) or not all([is_pair(own) for own in thing]):
        return False
    return all([0 <= hand < many and 0 <= task < number for hand, task in thing])


def good_web(thing):
    """Whether thing is a WEB."""
    if not isinstance(thing, tuple) or len(thing) != 3:
        return False
    many, number, ties = thing
    if not is_number(many) or not is_number(number) or many < 1 or number < 1:
        return False
    return good_ties(many, number, ties) and rises(ties) and holds(many, number, ties)


def good_side(thing):
    """Whether thing is a SIDE."""
    return is_number(thing) and 0 <= thing <= 1


def good_place(web, thing):
    """Whether thing is a PLACE of web."""
    return is_pair(thing) and 0 <= thing[0] <= 1 and 0 <= thing[1] < web[thing[0]]


def good_tie(web, thing):
    """Whether thing is a TIE of web."""
    return is_pair(thing) and thing in web[2]


def good_lot(web, side, thing):
    """Whether thing is a LOT of this SIDE."""
    if not are_numbers(thing) or len(thing) == 0 or not rises(thing):
        return False
    return thing[0] >= 0 and thing[-1] < web[side]


def fit_number(number):
    """number, if it is one."""
    if not is_number(number):
        raise Unfit()
    return number


def fit_count(number):
    """number, if it is one from 1."""
    if not is_number(number) or number < 1:
        raise Unfit()
    return number


def fit_pair(pair):
    """pair, if it is one of numbers."""
    told = tupled(pair, 1)
    if not is_pair(told):
        raise Unfit()
    return told


def fit_ties(many, number, ties):
    """ties, if each is a pair (hand, task) of so many of both."""
    told = tupled(ties, 2)
    if not good_ties(many, number, told):
        raise Unfit()
    return told


def fit_web(web):
    """web, if it is a WEB."""
    told = tupled(web, 3)
    if not good_web(told):
        raise Unfit()
    return told


def fit_side(side):
    """side, if it is a SIDE."""
    if not good_side(side):
        raise Unfit()
    return side


def fit_lot(web, side, lot):
    """lot, if it is a LOT of this SIDE."""
    told = tupled(lot, 1)
    if not good_lot(web, side, told):
        raise Unfit()
    return told


def need_place(web, place):
    """Nothing; NoPlace if place is none of web."""
    if not good_place(web, place):
        raise NoPlace(place)


def need_tie(web, tie):
    """Nothing; NoTie if tie is none of web."""
    if not good_tie(web, tie):
        raise NoTie(tie)
