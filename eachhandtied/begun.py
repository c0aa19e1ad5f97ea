"""ROWS, told by their owners, that begin alike, and those next to one another."""

from eachhandtied.chains import least_row
from eachhandtied.owners import given, handed_to, row_held


def places_behind(near, place):
    """The list of the places behind place."""
    return list(range(place + 1, len(near)))


def filled(near, owner, place, givers):
    """The owners when givers hand on to place as much as they can."""
    held = handed_to(near, owner, place, givers)
    while held is not None:
        owner = held
        held = handed_to(near, owner, place, givers)
    return owner


def least_behind(near, owner, place):
    """The owners of the least ROW that has as much as these up to place."""
    places = places_behind(near, place)
    # The last place is to have the most, then the one ahead of it, and so on.
    for at in range(len(places) - 1, 0, -1):
        owner = filled(near, owner, places[at], places[:at])
    return owner


def greatest_behind(near, owner, place):
    """The owners of the greatest ROW that has as much as these up to place."""
    places = places_behind(near, place)
    for at in range(len(places)):
        owner = filled(near, owner, places[at], places[at + 1:])
    return owner


def least_beginning(near, many, numbers):
    """The owners, of so many, of the least ROW that begins with numbers; None
    if there is none."""
    owner = given(near, many, least_row(near))
    for place, number in enumerate(numbers):
        short = number - owner.count(place)
        if short < 0:
            return None
        for k in range(short):
            owner = handed_to(near, owner, place, places_behind(near, place))
            if owner is None:
                return None
        owner = least_behind(near, owner, place)
    return owner


def next_behind(near, many, row):
    """The ROW next behind row; () if there is none."""
    owner = given(near, many, row)
    # The last place that can have 1 more with all ahead of it as they are.
    for place in range(len(near) - 2, -1, -1):
        held = handed_to(near, owner, place, places_behind(near, place))
        if held is not None:
            return row_held(near, least_behind(near, held, place))
    return ()


def next_ahead(near, many, row):
    """The ROW next ahead of row; () if there is none."""
    owner = given(near, many, row)
    # The last place that can have 1 less with all ahead of it as they are.
    for place in range(len(near) - 2, -1, -1):
        for later in places_behind(near, place):
            held = handed_to(near, owner, later, [place])
            if held is not None:
                return row_held(near, greatest_behind(near, held, place))
    return ()
