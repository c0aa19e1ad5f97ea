"""HANDINGS and PLANS: how ROWS lead to ROWS."""

from eachhandtied.bars import room_in
from eachhandtied.errors import Broken, CanNot
from eachhandtied.fit import fit_handing, fit_plan, fit_row, fit_side, fit_web, good_handing, good_lot, good_row
from eachhandtied.joins import near_of
from eachhandtied.owners import handing_toward, least_full_with
from eachhandtied.plain import same


def shifted(row, handing):
    """row with one less at from, one more at to, whatever comes of it."""
    told = list(row)
    told[handing[0]] -= 1
    told[handing[1]] += 1
    return tuple(told)


def hands_on(web, side, row, handing):
    """Whether handing is a HANDING of row."""
    return good_row(web, side, shifted(row, handing))


def how_far_apart(row, goal):
    """Half of what both differ by, place by place by size, added up."""
    return sum([abs(own - other) for own, other in zip(row, goal)]) // 2


def rows_on(web, side, row, pairs):
    """The list of row and of the ROWS that come of it, pair by pair, up to the
    first pair that is no HANDING."""
    found = [row]
    for handing in pairs:
        if not hands_on(web, side, found[-1], handing):
            return found
        found.append(shifted(found[-1], handing))
    return found


def led_to(web, side, row, pairs):
    """The ROW to which pairs lead; Broken if not all are HANDINGS."""
    found = rows_on(web, side, row, pairs)
    if len(found) <= len(pairs):
        raise Broken(len(found) - 1)
    return found[-1]


def can_hand(web, side, row, handing):
    """Whether handing is a HANDING of row."""
    web, side = fit_web(web), fit_side(side)
    row, handing = fit_row(web, side, row), fit_handing(web, side, handing)
    return hands_on(web, side, row, handing)


def handed(web, side, row, handing):
    """The ROW with one less at from, one more at to."""
    web, side = fit_web(web), fit_side(side)
    row, handing = fit_row(web, side, row), fit_handing(web, side, handing)
    if not hands_on(web, side, row, handing):
        raise CanNot()
    return shifted(row, handing)


def handings(web, side, row):
    """The set of all HANDINGS of row."""
    web, side = fit_web(web), fit_side(side)
    row = fit_row(web, side, row)
    found = []
    for more in range(web[side]):
        found.extend([(less, more) for less in least_full_with(web, side, row, more) if less != more])
    return tuple(sorted(found))


def why_not_handed(web, side, row, handing):
    """A REASON why handing is no HANDING of row."""
    web, side = fit_web(web), fit_side(side)
    row, handing = fit_row(web, side, row), fit_handing(web, side, handing)
    if hands_on(web, side, row, handing):
        raise CanNot()
    if row[handing[0]] == 0:
        return "nought", handing[0]
    return "full", least_full_with(web, side, row, handing[1])


def is_why_not_handed(web, side, row, handing, thing):
    """Whether thing is a REASON why handing is no HANDING of row."""
    web, side = fit_web(web), fit_side(side)
    row, handing = fit_row(web, side, row), fit_handing(web, side, handing)
    if row[handing[0]] == 0 and same(thing, ("nought", handing[0])):
        return True
    if not isinstance(thing, tuple) or len(thing) != 2 or thing[0] != "full":
        return False
    lot = thing[1]
    if not good_lot(web, side, lot) or handing[0] in lot or handing[1] not in lot:
        return False
    return room_in(near_of(web, side), row, lot) == 0


def fewest_handings(web, side, row, goal):
    """How many HANDINGS a shortest PLAN from row to goal has."""
    web, side = fit_web(web), fit_side(side)
    row, goal = fit_row(web, side, row), fit_row(web, side, goal)
    return how_far_apart(row, goal)


def plan(web, side, row, goal):
    """A PLAN from row to goal with the fewest HANDINGS."""
    web, side = fit_web(web), fit_side(side)
    row, goal = fit_row(web, side, row), fit_row(web, side, goal)
    found = []
    while row != goal:
        found.append(handing_toward(web, side, row, goal))
        row = shifted(row, found[-1])
    return tuple(found)


def is_plan(web, side, row, goal, thing):
    """Whether thing is a PLAN from row to goal with the fewest HANDINGS."""
    web, side = fit_web(web), fit_side(side)
    row, goal = fit_row(web, side, row), fit_row(web, side, goal)
    if not isinstance(thing, tuple) or len(thing) != how_far_apart(row, goal):
        return False
    if not all([good_handing(web, side, own) for own in thing]):
        return False
    found = rows_on(web, side, row, thing)
    return len(found) == len(thing) + 1 and found[-1] == goal


def led_by(web, side, row, plan):
    """The ROW to which plan leads from row."""
    web, side = fit_web(web), fit_side(side)
    row, plan = fit_row(web, side, row), fit_plan(web, side, plan)
    return led_to(web, side, row, plan)


def plan_back(web, side, row, plan):
    """The PLAN back: all pairs turned about, the last one first."""
    web, side = fit_web(web), fit_side(side)
    row, plan = fit_row(web, side, row), fit_plan(web, side, plan)
    led_to(web, side, row, plan)
    return tuple([(more, less) for less, more in plan[::-1]])
