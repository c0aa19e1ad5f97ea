"""TIGHT TREES: the one that has a ROW, and those beside one."""

from eachhandtied.costs import gaps_along, prices_of
from eachhandtied.joins import near_of
from eachhandtied.owners import come_from, given, left_to
from eachhandtied.spans import beyond_along, first_tree, row_in, steps_toward, swapped


def closed(back, owner, come):
    """back without what goes from places come to to what others own."""
    told = []
    for places, holder in zip(back, owner):
        if holder is None or holder in come:
            told.append(places)
        else:
            told.append([place for place in places if place not in come])
    return told


def tight_with(web, order, side, row):
    """The TIGHT TREE with this ROW: that of the least SHARES, TIE by TIE."""
    back = near_of(web, 1 - side)
    owner = given(near_of(web, side), web[1 - side], row)
    for tie in order:
        place, other = tie[side], tie[1 - side]
        places = back[other]
        if place not in places:
            continue
        owner = left_to(back, owner, other)
        back[other] = [own for own in places if own != place]
        come = come_from(back, owner, other)
        if len(come) < web[side]:
            # No TREE is without tie. Those not come to have at the least its
            # SHARE; just that if none but them goes to what they own.
            back[other] = places
            back = closed(back, owner, come)
    left = [(place, other) for other, places in enumerate(back) for place in places]
    return tuple(sorted([(own[side], own[1 - side]) for own in left]))


def bits_at(web, ties):
    """For each PLACE a number with a bit for each of ties, in their order, that
    it has; those of the TASKS stand above all those of the HANDS."""
    bits = {(side, number): 0 for side in (0, 1) for number in range(web[side])}
    for at, tie in enumerate(ties):
        bits[(0, tie[0])] |= 1 << at
        bits[(1, tie[1])] |= 1 << (at + len(ties))
    return bits


def puts_beside(web, tree, by_tie):
    """For each TIE of tree, a TIGHT one, over which another one is beside it
    the TIE that this one has for it, by_tie telling the prices."""
    toward = steps_toward(tree, (0, 0))
    gaps = gaps_along(web, toward, by_tie)
    # The one of the least gap can be put without any coming under the TREE.
    puts = [own[1] for own in sorted([(gaps[tie], tie) for tie in web[2] if gaps[tie] > 0])]
    beyond = beyond_along(toward, bits_at(web, puts))
    found = {}
    for tie in tree:
        end, bits = beyond[tie]
        hands, tasks = bits & ((1 << len(puts)) - 1), bits >> len(puts)
        # Those from the PART of the TASK of tie to that of its HAND.
        fit = tasks & ~hands if end[0] == 0 else hands & ~tasks
        if fit:
            found[tie] = puts[(fit & -fit).bit_length() - 1]
    return found


def every_tight(web, order):
    """The list, ascending, of all TIGHT TREES."""
    by_tie = prices_of(web, order)
    first = tight_with(web, order, 0, row_in(web, first_tree(web), 0))
    found = {first: True}
    waiting = [first]
    while waiting:
        tree = waiting.pop()
        puts = puts_beside(web, tree, by_tie)
        for out in puts:
            beside = swapped(tree, puts[out], out)
            if beside not in found:
                found[beside] = True
                waiting.append(beside)
    return sorted(list(found))
