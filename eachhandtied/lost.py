"""What a TIE less loses."""

from eachhandtied.errors import CanNot
from eachhandtied.few import few_rows
from eachhandtied.filled import has_row
from eachhandtied.fit import fit_pair, fit_row, fit_side, fit_web, need_tie
from eachhandtied.joins import holds, near_of
from eachhandtied.owners import come_from, given, left_to, tree_held


def web_less(web, tie):
    """web without tie, whether it hangs together or not."""
    return web[0], web[1], tuple([own for own in web[2] if own != tie])


def owners_to(web, side, row, other):
    """The owners of row when other is the one that is left over."""
    owner = given(near_of(web, side), web[1 - side], row)
    return left_to(near_of(web, 1 - side), owner, other)


def least_share_of(web, side, row, tie):
    """The least SHARE of tie among the TREES with row."""
    owner = owners_to(web, side, row, tie[1 - side])
    come = come_from(near_of(web_less(web, tie), 1 - side), owner, tie[1 - side])
    # Those not come to without tie are in its PART in each TREE.
    return web[side] - len(come)


def without(web, tie):
    """web without tie."""
    web, tie = fit_web(web), fit_pair(tie)
    need_tie(web, tie)
    left = web_less(web, tie)
    if not holds(*left):
        raise CanNot()
    return left


def lost_rows(web, side, tie):
    """The list, ascending, of the ROWS of this SIDE that are lost with tie."""
    web, side, tie = fit_web(web), fit_side(side), fit_pair(tie)
    need_tie(web, tie)
    rows, left = few_rows(web, side), web_less(web, tie)
    if not holds(*left):
        return rows
    kept = {row: True for row in few_rows(left, side)}
    return [row for row in rows if row not in kept]


def is_lost(web, side, row, tie):
    """Whether row is lost with tie."""
    web, side = fit_web(web), fit_side(side)
    row, tie = fit_row(web, side, row), fit_pair(tie)
    need_tie(web, tie)
    return least_share_of(web, side, row, tie) > 0


def must_ties(web, side, row):
    """The set of the TIES that all TREES with row have."""
    web, side = fit_web(web), fit_side(side)
    row = fit_row(web, side, row)
    return tuple([tie for tie in web[2] if least_share_of(web, side, row, tie) > 0])


def tree_with(web, side, row, tie):
    """A TREE with row that has tie."""
    web, side = fit_web(web), fit_side(side)
    row, tie = fit_row(web, side, row), fit_pair(tie)
    need_tie(web, tie)
    other = tie[1 - side]
    owner = owners_to(web, side, row, other)
    # All that other is tied to is come to by it, the end of tie, too.
    return tree_held(side, owner, come_from(near_of(web, 1 - side), owner, other))


def is_tree_with(web, side, row, tie, thing):
    """Whether thing is a TREE with row that has tie."""
    web, side = fit_web(web), fit_side(side)
    row, tie = fit_row(web, side, row), fit_pair(tie)
    need_tie(web, tie)
    return has_row(web, side, row, thing) and tie in thing


def least_share(web, side, row, tie):
    """The least SHARE of tie among the TREES with row, 0 if one is without it."""
    web, side = fit_web(web), fit_side(side)
    row, tie = fit_row(web, side, row), fit_pair(tie)
    need_tie(web, tie)
    return least_share_of(web, side, row, tie)
