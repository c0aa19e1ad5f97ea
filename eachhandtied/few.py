"""Lists that are told only if they are not too long."""

from eachhandtied.errors import TooMany
from eachhandtied.joins import near_of
from eachhandtied.owners import rows_up_to
from eachhandtied.plain import MOST_TOLD
from eachhandtied.ranked import MOST_RANKED, ranks_of, rows_by
from eachhandtied.spans import every_tree, first_tree, how_many_trees, row_in
from eachhandtied.tightened import every_tight


def few_trees(web):
    """The list, ascending, of all TREES of web; TooMany if it is too long."""
    # They are counted first, as a list of them all may be beyond all bounds.
    if how_many_trees(web) > MOST_TOLD:
        raise TooMany()
    return every_tree(web)


def rows_told(web, side):
    """The list, ascending, of all ROWS of this SIDE; None if it is too long."""
    if web[side] <= MOST_RANKED:
        return rows_by(ranks_of(near_of(web, side)), MOST_TOLD)
    return rows_up_to(web, side, row_in(web, first_tree(web), side), MOST_TOLD)


def few_rows(web, side):
    """The list, ascending, of all ROWS of this SIDE; TooMany likewise."""
    found = None
    # Both SIDES have as many ROWS: whether they are too many is found sooner on
    # that with fewer places.
    for own in [side] if web[side] <= web[1 - side] else [1 - side, side]:
        found = rows_told(web, own)
        if found is None:
            raise TooMany()
    return found


def how_few_rows(web):
    """How many ROWS there are of each SIDE; TooMany likewise."""
    return len(few_rows(web, 0 if web[0] <= web[1] else 1))


def few_tight(web, order):
    """The list, ascending, of all TIGHT TREES, of each ROW one; TooMany likewise."""
    # ROWS are found much sooner than TREES.
    how_few_rows(web)
    return every_tight(web, order)
