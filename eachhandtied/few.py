"""Lists that are told only if they are not too long."""

from eachhandtied.errors import TooMany
from eachhandtied.owners import rows_up_to
from eachhandtied.plain import MOST_TOLD
from eachhandtied.spans import every_tree, first_tree, how_many_trees, row_in
from eachhandtied.tightened import tights_up_to


def few_trees(web):
    """The list, ascending, of all TREES of web; TooMany if it is too long."""
    # They are counted first, as a list of them all may be beyond all bounds.
    if how_many_trees(web) > MOST_TOLD:
        raise TooMany()
    return every_tree(web)


def few_rows(web, side):
    """The list, ascending, of all ROWS of this SIDE; TooMany likewise."""
    found = rows_up_to(web, side, row_in(web, first_tree(web), side), MOST_TOLD)
    if found is None:
        raise TooMany()
    return found


def few_tight(web, order):
    """The list, ascending, of all TIGHT TREES, of each ROW one; TooMany likewise."""
    found = tights_up_to(web, order, MOST_TOLD)
    if found is None:
        raise TooMany()
    return found
