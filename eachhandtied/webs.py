"""WEBS of HANDS and TASKS, and LOTS of them."""

from eachhandtied.fit import fit_count, fit_lot, fit_pair, fit_side, fit_ties, fit_web
from eachhandtied.fit import good_lot, good_place, good_tie, good_web, need_place, need_tie
from eachhandtied.joins import holds, met_by, near_of, pieces_of, rank_of


def is_web(thing):
    """Whether thing is a WEB."""
    return good_web(thing)


def is_place(web, thing):
    """Whether thing is a PLACE of web."""
    return good_place(fit_web(web), thing)


def is_tie(web, thing):
    """Whether thing is a TIE of web."""
    return good_tie(fit_web(web), thing)


def is_lot(web, side, thing):
    """Whether thing is a LOT of this SIDE."""
    web = fit_web(web)
    return good_lot(web, fit_side(side), thing)


def hangs(many, number, ties):
    """Whether so many HANDS and so many TASKS hang together by ties."""
    many, number = fit_count(many), fit_count(number)
    return holds(many, number, fit_ties(many, number, ties))


def sizes(web):
    """How many HANDS, TASKS and TIES."""
    many, number, ties = fit_web(web)
    return many, number, len(ties)


def ties_at(web, place):
    """The set of the TIES of this place."""
    web, place = fit_web(web), fit_pair(place)
    need_place(web, place)
    return tuple([tie for tie in web[2] if tie[place[0]] == place[1]])


def neighbours_of(web, side, lot):
    """The LOT of the neighbours of lot, on the other SIDE."""
    web, side = fit_web(web), fit_side(side)
    return met_by(near_of(web, side), fit_lot(web, side, lot))


def pieces(web, side, lot):
    """The set of the pieces of lot."""
    web, side = fit_web(web), fit_side(side)
    return pieces_of(near_of(web, side), fit_lot(web, side, lot))


def rank(web, side, lot):
    """How many neighbours lot has, less how many pieces."""
    web, side = fit_web(web), fit_side(side)
    return rank_of(near_of(web, side), fit_lot(web, side, lot))


def is_needed(web, tie):
    """Whether all but tie does not hang together."""
    web, tie = fit_web(web), fit_pair(tie)
    need_tie(web, tie)
    return not holds(web[0], web[1], [own for own in web[2] if own != tie])
