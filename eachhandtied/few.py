"""Lists that are told only if they are not too long."""

from eachhandtied.chains import best_row_by, levels_of
from eachhandtied.errors import TooMany
from eachhandtied.joins import near_of
from eachhandtied.owners import rows_up_to
from eachhandtied.plain import MOST_TOLD
from eachhandtied.ranked import MOST_RANKED, faced, ranks_of, rows_by
from eachhandtied.spans import every_tree, how_many_trees
from eachhandtied.tightened import every_tight


def few_trees(web):
    """The list, ascending, of all TREES of web; TooMany if it is too long."""
    # They are counted first, as a list of them all may be beyond all bounds.
    if how_many_trees(web) > MOST_TOLD:
        raise TooMany()
    return every_tree(web)


def rows_told(web, side, worths):
    """The list, ascending, of all dearest ROWS by worths; None if it is too long."""
    near = near_of(web, side)
    if web[side] <= MOST_RANKED:
        return rows_by(faced(ranks_of(near), levels_of(worths)), MOST_TOLD)
    return rows_up_to(web, side, best_row_by(near, worths), worths, MOST_TOLD)


def few_best(web, side, worths):
    """The list, ascending, of all dearest ROWS by worths; TooMany likewise."""
    found = rows_told(web, side, worths)
    if found is None:
        raise TooMany()
    return found


def few_rows(web, side):
    """The list, ascending, of all ROWS of this SIDE; TooMany likewise."""
    # Both SIDES have as many ROWS: whether they are too many is found sooner on
    # that with fewer places.
    if web[1 - side] < web[side]:
        how_few_rows(web)
    # By one worth for all places all ROWS are dearest.
    return few_best(web, side, (0,) * web[side])


def how_few_rows(web):
    """How many ROWS there are of each SIDE; TooMany likewise."""
    return len(few_rows(web, 0 if web[0] <= web[1] else 1))


def few_tight(web, order):
    """The list, ascending, of all TIGHT TREES, of each ROW one; TooMany likewise."""
    # ROWS are found much sooner than TREES.
    how_few_rows(web)
    return every_tight(web, order)
