"""Who is given whom: the numbers of a CALL are handed out among the places of
the other SIDE, each of these given to one place that it is tied to, its owner,
and one of them, left over, to none."""

from eachhandtied.joins import near_of


def reach(near, owner, start):
    """How far start comes, from places to all they are tied to, from these to
    their owners: the triple of an other without an owner (None if there is
    none), by which place each other was come to, and by which other each
    place."""
    came, by = {}, {start: None}
    waiting = [start]
    while waiting:
        place = waiting.pop()
        for other in near[place]:
            if other in came:
                continue
            came[other] = place
            holder = owner[other]
            if holder is None:
                return other, came, by
            if holder not in by:
                by[holder] = other
                waiting.append(holder)
    return None, came, by


def reached(near, owner, start):
    """The set of the places that start comes to, if all have owners."""
    return tuple(sorted(list(reach(near, owner, start)[2])))


def give(near, owner, start):
    """Give start one more in owner, if it comes to one that none has."""
    other, came, by = reach(near, owner, start)
    # Each place on the way gives on the other by which it was come to.
    while other is not None:
        place = came[other]
        owner[other] = place
        other = by[place]


def given(near, many, call):
    """The owners of so many others, None for who has none, when each place is
    given as many as call tells, or as many as can be."""
    owner = [None] * many
    for place, number in enumerate(call):
        for k in range(number):
            give(near, owner, place)
    return owner


def come_from(back, owner, start):
    """By which other each place is come to from start, when one goes from
    others to all places tied to them, from these to all that they own."""
    owned = {}
    for other, place in enumerate(owner):
        if place is not None:
            owned.setdefault(place, []).append(other)
    come = {}
    waiting = [start]
    while waiting:
        other = waiting.pop()
        for place in back[other]:
            if place not in come:
                come[place] = other
                waiting.extend(owned.get(place, []))
    return come


def left_to(back, owner, goal):
    """owner, but that goal is the one that is left over."""
    start = owner.index(None)
    come = come_from(back, owner, start)
    told = list(owner)
    told[goal] = None
    at = goal
    # Each place on the way has the one by which it was come to for the one
    # that it gives on.
    while at != start:
        place = owner[at]
        at = come[place]
        told[at] = place
    return told


def bar_of(web, side, call):
    """A BAR of call; () if there is none, call being a ROW."""
    owner = given(near_of(web, side), web[1 - side], call)
    come = come_from(near_of(web, 1 - side), owner, owner.index(None))
    # From the first other that none has one comes to no place that lacks some.
    # So those not come to, if there are any, lack or own all their neighbours;
    # if there are none, each place may have one more: call is a ROW.
    return tuple([place for place in range(web[side]) if place not in come])


def tree_held(side, owner, come):
    """The TREE in which each place of this SIDE has a TIE to all that it owns,
    and one to that by which it is come to."""
    ends = [(place, other) for other, place in enumerate(owner) if place is not None]
    ends.extend([(place, come[place]) for place in come])
    return tuple(sorted([(own[side], own[1 - side]) for own in ends]))


def tree_given(web, side, call):
    """A TREE whose ROW of this SIDE call is; () if there is none."""
    owner = given(near_of(web, side), web[1 - side], call)
    come = come_from(near_of(web, 1 - side), owner, owner.index(None))
    return tree_held(side, owner, come) if len(come) == web[side] else ()


def owners_with(near, owner, place):
    """The owners when place is given one more, too: then all have one."""
    fuller = list(owner)
    give(near, fuller, place)
    return fuller


def row_held(near, owner):
    """The ROW of which these are the owners."""
    return tuple([owner.count(place) for place in range(len(near))])


def handed_to(near, owner, place, givers):
    """The owners of a ROW when one of givers hands one on to place, no giver
    itself; None if none of them can."""
    held = owners_with(near, owner, place)
    for less in reached(near, held, place):
        if less in givers:
            held[held.index(less)] = None
            return held
    return None


def least_full_with(web, side, row, place):
    """The least LOT with place that is full for row: those that can give one
    of theirs to place are all of it but place, maybe, itself."""
    near = near_of(web, side)
    owner = given(near, web[1 - side], row)
    return reached(near, owners_with(near, owner, place), place)


def handing_toward(web, side, row, goal):
    """A HANDING of row, which is not goal, from a place that has more in row
    than in goal, another ROW, to one that has less."""
    more = [place for place in range(web[side]) if row[place] < goal[place]][0]
    lot = least_full_with(web, side, row, more)
    # On a LOT that is full for row no ROW comes to more than row does; as goal
    # has more at one place of it, it has less at another one.
    return [place for place in lot if row[place] > goal[place]][0], more


def rows_around(near, row, owner, worths):
    """The list of the pairs of a ROW that is row but for one more at a place
    and one less at another one of the same worth, and of its owners."""
    found = []
    for place in range(len(row)):
        fuller = owners_with(near, owner, place)
        for less in reached(near, fuller, place):
            if less != place and worths[less] == worths[place]:
                held = list(fuller)
                held[held.index(less)] = None
                more = list(row)
                more[place] += 1
                more[less] -= 1
                found.append((tuple(more), held))
    return found


def rows_up_to(web, side, row, worths, most):
    """The list, ascending, of all dearest ROWS by worths, row being one of
    them; None if they are more than most."""
    near = near_of(web, side)
    found = {row: True}
    waiting = [(row, given(near, web[1 - side], row))]
    while waiting:
        own, owner = waiting.pop()
        for more, held in rows_around(near, own, owner, worths):
            if more not in found:
                found[more] = True
                waiting.append((more, held))
        if len(found) > most:
            return None
    return sorted(list(found))
