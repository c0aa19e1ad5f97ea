"""TREES of a WEB, ways and parts in them, without a look at what is passed."""

from eachhandtied.joins import forest, holds


def first_tree(web):
    """The least TREE of web."""
    return tuple(forest(*web))


def row_in(web, tree, side):
    """The ROW of tree, of this SIDE."""
    row = [-1] * web[side]
    for tie in tree:
        row[tie[side]] += 1
    return tuple(row)


def table_of(web):
    """For all PLACES but the last TASK: how many TIES each has, and -1 for each
    TIE between two of them."""
    many, number, ties = web
    size = many + number - 1
    table = [[0] * size for k in range(size)]
    for hand, task in ties:
        other = many + task
        table[hand][hand] += 1
        if other < size:
            table[other][other] += 1
            table[hand][other] = -1
            table[other][hand] = -1
    return table


def how_many_trees(web):
    """How many TREES web has: the determinant of its table."""
    table = table_of(web)
    size, over = len(table), 1
    # As web hangs together no number by which is divided here is 0, and all
    # divisions come out even.
    for at in range(size - 1):
        for row in range(at + 1, size):
            for column in range(at + 1, size):
                crossed = table[row][column] * table[at][at] - table[row][at] * table[at][column]
                table[row][column] = crossed // over
        over = table[at][at]
    return table[size - 1][size - 1]


def every_tree(web):
    """The list, ascending, of all TREES of web."""
    many, number, ties = web
    found = []
    waiting = [(0, ())]
    # Each step has a tie first, then not; both only if a TREE can come of it.
    while waiting:
        at, chosen = waiting.pop()
        if len(chosen) == many + number - 1:
            found.append(chosen)
            continue
        if holds(many, number, chosen + ties[at + 1:]):
            waiting.append((at + 1, chosen))
        if len(forest(many, number, chosen + ties[at:at + 1])) > len(chosen):
            waiting.append((at + 1, chosen + ties[at:at + 1]))
    return found


def steps_of(tree):
    """For each PLACE the list of the pairs of a TIE of it and its other end."""
    steps = {}
    for tie in tree:
        hand, task = (0, tie[0]), (1, tie[1])
        steps.setdefault(hand, []).append((tie, task))
        steps.setdefault(task, []).append((tie, hand))
    return steps


def steps_toward(tree, goal):
    """For each PLACE that hangs together with goal by tree the pair of the TIE
    toward goal and its other end; None for goal itself."""
    steps = steps_of(tree)
    toward = {goal: None}
    waiting = [goal]
    while waiting:
        at = waiting.pop()
        for tie, beyond in steps.get(at, []):
            if beyond not in toward:
                toward[beyond] = (tie, at)
                waiting.append(beyond)
    return toward


def way_in(tree, place, other):
    """The WAY in tree from place to other."""
    toward = steps_toward(tree, other)
    found = []
    step = toward[place]
    while step is not None:
        tie, at = step
        found.append(tie)
        step = toward[at]
    return tuple(found)


def way_round(tree, tie):
    """The WAY in tree from the HAND of tie to its TASK."""
    return way_in(tree, (0, tie[0]), (1, tie[1]))


def part_in(tree, tie, side):
    """The set of the PLACES on the side of tie's end of this SIDE."""
    left = [own for own in tree if own != tie]
    return tuple(sorted(list(steps_toward(left, (side, tie[side])))))


def swapped(tree, put, out):
    """tree with put in the place of out."""
    return tuple(sorted([own for own in tree if own != out] + [put]))


def beyond_along(toward, numbers):
    """For each TIE toward a goal the pair of its end away from the goal and
    what the numbers of all PLACES that hang together with this end come to."""
    come = {place: numbers[place] for place in toward}
    found = {}
    # A PLACE stands in toward behind the one to which it goes.
    for place in reversed(list(toward)):
        step = toward[place]
        if step is not None:
            tie, at = step
            found[tie] = (place, come[place])
            come[at] += come[place]
    return found


def shares_in(web, tree, side):
    """The SHARE of each TIE of tree by this SIDE."""
    numbers = {(own, number): 1 if own == side else 0 for own in (0, 1) for number in range(web[own])}
    beyond = beyond_along(steps_toward(tree, (0, 0)), numbers)
    found = {}
    for tie in tree:
        end, many = beyond[tie]
        found[tie] = many if end[0] == side else web[side] - many
    return found


def shares_along(web, tree, ties, side):
    """The SHARES of tree by this SIDE for all ties, 0 for those not of it."""
    shares = shares_in(web, tree, side)
    return tuple([shares.get(tie, 0) for tie in ties])
