"""Arguments as they have to be: each fit_ gives its argument with tuples for
lists, or raises Unfit; each good_ asks a value that has tuples already."""

from eachhandtied.errors import NoPlace, NoTie, Unfit
from eachhandtied.joins import holds
from eachhandtied.owners import bar_of
from eachhandtied.plain import are_numbers, is_number, is_pair, rises, same, tupled
from eachhandtied.rings import is_ring
from eachhandtied.spans import shares_in


def good_ties(many, number, thing):
    """Whether thing is a tuple of pairs (hand, task) of so many of both."""
    if not isinstance(thing, tuple) or not all([is_pair(own) for own in thing]):
        return False
    return all([0 <= hand < many and 0 <= task < number for hand, task in thing])


def good_web(thing):
    """Whether thing is a WEB."""
    if not isinstance(thing, tuple) or len(thing) != 3:
        return False
    many, number, ties = thing
    if not is_number(many) or not is_number(number) or many < 1 or number < 1:
        return False
    return good_ties(many, number, ties) and rises(ties) and holds(many, number, ties)


def good_side(thing):
    """Whether thing is a SIDE."""
    return is_number(thing) and 0 <= thing <= 1


def good_place(web, thing):
    """Whether thing is a PLACE of web."""
    return is_pair(thing) and 0 <= thing[0] <= 1 and 0 <= thing[1] < web[thing[0]]


def good_tie(web, thing):
    """Whether thing is a TIE of web."""
    return is_pair(thing) and thing in web[2]


def good_lot(web, side, thing):
    """Whether thing is a LOT of this SIDE."""
    if not are_numbers(thing) or len(thing) == 0 or not rises(thing):
        return False
    return thing[0] >= 0 and thing[-1] < web[side]


def good_tree(web, thing):
    """Whether thing is a TREE of web."""
    many, number, ties = web
    if not isinstance(thing, tuple) or len(thing) != many + number - 1:
        return False
    if not good_ties(many, number, thing) or not rises(thing):
        return False
    return all([tie in ties for tie in thing]) and holds(many, number, thing)


def good_call(web, side, thing):
    """Whether thing is a CALL of this SIDE."""
    if not isinstance(thing, tuple) or len(thing) != web[side] or not are_numbers(thing):
        return False
    return min(thing) >= 0 and sum(thing) == web[1 - side] - 1


def good_row(web, side, thing):
    """Whether thing is a ROW of web, of this SIDE."""
    return good_call(web, side, thing) and not bar_of(web, side, thing)


def good_order(web, thing):
    """Whether thing is an ORDER of web."""
    if not isinstance(thing, tuple) or len(thing) != len(web[2]):
        return False
    return all([is_pair(own) for own in thing]) and sorted(thing) == list(web[2])


def good_filling(web, side, call, thing):
    """Whether thing is a FILLING of call."""
    if not are_numbers(thing) or len(thing) != len(web[2]) or min(thing) < 0:
        return False
    many = web[side]
    here, there = [0] * many, [0] * web[1 - side]
    for tie, number in zip(web[2], thing):
        here[tie[side]] += number
        there[tie[1 - side]] += number
    return here == [many * own + 1 for own in call] and there == [many] * len(there)


def good_shares(web, side, thing):
    """Whether thing are the pairs of a TIE of some TREE and its SHARE."""
    if not isinstance(thing, tuple) or not all([isinstance(own, tuple) and len(own) == 2 for own in thing]):
        return False
    tree = tuple([own[0] for own in thing])
    if not good_tree(web, tree):
        return False
    shares = shares_in(web, tree, side)
    return all([same(own[1], shares[own[0]]) for own in thing])


def good_worths(web, side, thing):
    """Whether thing are WORTHS of this SIDE."""
    return are_numbers(thing) and len(thing) == web[side]


def good_handing(web, side, thing):
    """Whether thing is a pair of unlike numbers of this SIDE."""
    return is_pair(thing) and thing[0] != thing[1] and all([0 <= own < web[side] for own in thing])


def fit_number(number):
    """number, if it is one."""
    if not is_number(number):
        raise Unfit()
    return number


def fit_count(number):
    """number, if it is one from 1."""
    if not is_number(number) or number < 1:
        raise Unfit()
    return number


def fit_natural(number):
    """number, if it is one from 0."""
    if not is_number(number) or number < 0:
        raise Unfit()
    return number


def fit_between(number, least, most):
    """number, if it is one from least to most."""
    if not is_number(number) or not least <= number <= most:
        raise Unfit()
    return number


def fit_pair(pair):
    """pair, if it is one of numbers."""
    told = tupled(pair, 1)
    if not is_pair(told):
        raise Unfit()
    return told


def fit_ties(many, number, ties):
    """ties, if each is a pair (hand, task) of so many of both."""
    told = tupled(ties, 2)
    if not good_ties(many, number, told):
        raise Unfit()
    return told


def fit_web(web):
    """web, if it is a WEB."""
    told = tupled(web, 3)
    if not good_web(told):
        raise Unfit()
    return told


def fit_side(side):
    """side, if it is a SIDE."""
    if not good_side(side):
        raise Unfit()
    return side


def fit_lot(web, side, lot):
    """lot, if it is a LOT of this SIDE."""
    told = tupled(lot, 1)
    if not good_lot(web, side, told):
        raise Unfit()
    return told


def fit_tree(web, tree):
    """tree, if it is a TREE of web."""
    told = tupled(tree, 2)
    if not good_tree(web, told):
        raise Unfit()
    return told


def fit_call(web, side, call):
    """call, if it is a CALL of this SIDE."""
    told = tupled(call, 1)
    if not good_call(web, side, told):
        raise Unfit()
    return told


def fit_row(web, side, row):
    """row, if it is a ROW of web, of this SIDE."""
    told = tupled(row, 1)
    if not good_row(web, side, told):
        raise Unfit()
    return told


def fit_names(many, names):
    """names, if they are all numbers of a SIDE of so many, each once."""
    told = tupled(names, 1)
    if not are_numbers(told) or sorted(told) != list(range(many)):
        raise Unfit()
    return told


def fit_naturals(numbers):
    """numbers, if they are a tuple of numbers from 0."""
    told = tupled(numbers, 1)
    if not are_numbers(told) or not all([own >= 0 for own in told]):
        raise Unfit()
    return told


def fit_limits(web, side, limits):
    """limits, if they are a tuple with a number from 0 for each of this SIDE."""
    told = fit_naturals(limits)
    if len(told) != web[side]:
        raise Unfit()
    return told


def fit_beginning(web, side, numbers):
    """numbers, if they are a tuple of numbers from 0, no more than this SIDE has
    places."""
    told = fit_naturals(numbers)
    if len(told) > web[side]:
        raise Unfit()
    return told


def fit_order(web, order):
    """order, if it is an ORDER of web."""
    told = tupled(order, 2)
    if not good_order(web, told):
        raise Unfit()
    return told


def fit_filling(web, side, call, filling):
    """filling, if it is a FILLING of call."""
    told = tupled(filling, 1)
    if not good_filling(web, side, call, told):
        raise Unfit()
    return told


def fit_shares(web, side, shares):
    """shares, if they are the pairs of a TIE of some TREE and its SHARE."""
    told = tupled(shares, 3)
    if not good_shares(web, side, told):
        raise Unfit()
    return told


def fit_ring(first, second, ring):
    """ring, if it goes round over TIES of first and back over those of second."""
    told = tupled(ring, 1)
    if not is_ring(first, second, told):
        raise Unfit()
    return told


def fit_fall(web, fall):
    """fall, if it is a pair of TIES of web."""
    told = tupled(fall, 2)
    if not isinstance(told, tuple) or len(told) != 2 or not all([good_tie(web, own) for own in told]):
        raise Unfit()
    return told


def fit_worths(web, side, worths):
    """worths, if they are WORTHS of this SIDE."""
    told = tupled(worths, 1)
    if not good_worths(web, side, told):
        raise Unfit()
    return told


def fit_handing(web, side, handing):
    """handing, if it is a pair of unlike numbers of this SIDE."""
    told = tupled(handing, 1)
    if not good_handing(web, side, told):
        raise Unfit()
    return told


def fit_plan(web, side, plan):
    """plan, if it is a tuple of pairs of unlike numbers of this SIDE."""
    told = tupled(plan, 2)
    if not isinstance(told, tuple) or not all([good_handing(web, side, own) for own in told]):
        raise Unfit()
    return told


def need_place(web, place):
    """Nothing; NoPlace if place is none of web."""
    if not good_place(web, place):
        raise NoPlace(place)


def need_tie(web, tie):
    """Nothing; NoTie if tie is none of web."""
    if not good_tie(web, tie):
        raise NoTie(tie)


def need_both_ends(web, tie):
    """Nothing; NoTie if tie is beyond the HANDS or TASKS of web."""
    if not good_place(web, (0, tie[0])) or not good_place(web, (1, tie[1])):
        raise NoTie(tie)
