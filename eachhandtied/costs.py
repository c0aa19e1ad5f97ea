"""What TIES cost by an ORDER, without a look at what is passed."""

from eachhandtied.spans import shares_in, steps_toward


def prices_of(web, order):
    """The price of each TIE by order."""
    found = {}
    worth = 1
    for tie in reversed(order):
        found[tie] = worth
        worth *= web[0] + web[1] + 1
    return found


def potentials_along(web, toward, by_tie):
    """The POTENTIALS of a TREE whose steps toward the first HAND these are,
    by_tie telling the prices."""
    told = {}
    # A PLACE stands in toward behind the one to which it goes.
    for place in toward:
        step = toward[place]
        told[place] = 0 if step is None else by_tie[step[0]] - told[step[1]]
    hands = tuple([told[(0, hand)] for hand in range(web[0])])
    return hands, tuple([told[(1, task)] for task in range(web[1])])


def potentials_of(web, tree, by_tie):
    """The POTENTIALS of tree."""
    return potentials_along(web, steps_toward(tree, (0, 0)), by_tie)


def gaps_along(web, toward, by_tie):
    """For each TIE of web its price less both POTENTIALS at its ends."""
    hands, tasks = potentials_along(web, toward, by_tie)
    return {tie: by_tie[tie] - hands[tie[0]] - tasks[tie[1]] for tie in web[2]}


def gaps_of(web, tree, by_tie):
    """The same by the TREE."""
    return gaps_along(web, steps_toward(tree, (0, 0)), by_tie)


def under_of(web, tree, by_tie):
    """The set of the TIES under tree."""
    gaps = gaps_of(web, tree, by_tie)
    return tuple([tie for tie in web[2] if gaps[tie] < 0])


def cost_of(web, tree, by_tie, side):
    """The COST of tree by this SIDE."""
    shares = shares_in(web, tree, side)
    return sum([shares[tie] * by_tie[tie] for tie in tree])
