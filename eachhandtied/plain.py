"""Plain values: which are numbers, pairs, sets, and lists taken for tuples."""

# A longer list of what a WEB has is not told.
MOST_TOLD = 2000


def is_number(thing):
    """Whether thing is an int that is not a bool."""
    return isinstance(thing, int) and not isinstance(thing, bool)


def are_numbers(thing):
    """Whether thing is a tuple of numbers."""
    return isinstance(thing, tuple) and all([is_number(own) for own in thing])


def is_pair(thing):
    """Whether thing is a tuple of two numbers."""
    return isinstance(thing, tuple) and len(thing) == 2 and are_numbers(thing)


def rises(row):
    """Whether each of row is above the one ahead of it."""
    return all([row[at - 1] < row[at] for at in range(1, len(row))])


def tupled(value, depth):
    """value with tuples for the lists in it, down to depth."""
    # What lies deeper stays as it is: a check finds a list there unfit, and
    # no value, however deep it goes, is walked farther than is asked for.
    if depth == 0 or not isinstance(value, (list, tuple)):
        return value
    return tuple([tupled(own, depth - 1) for own in value])


def same(thing, wanted):
    """Whether thing is wanted, which is built of tuples, numbers and strings:
    by == alone True would be 1."""
    if isinstance(wanted, tuple):
        if not isinstance(thing, tuple) or len(thing) != len(wanted):
            return False
        return all([same(own, other) for own, other in zip(thing, wanted)])
    return not isinstance(thing, bool) and thing == wanted
