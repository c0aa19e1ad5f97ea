"""Plain walks over small WEBS, to hold the package against: each tells by its
definition alone what the package finds in other ways."""

from functools import lru_cache
from itertools import combinations, permutations, product


def listed(value):
    """value with lists for all tuples in it."""
    if isinstance(value, tuple):
        return [listed(own) for own in value]
    return value


def hang(many, number, ties):
    """Whether so many HANDS and TASKS hang together by ties."""
    seen = {(0, 0)}
    grown = True
    while grown:
        grown = False
        for hand, task in ties:
            ends = {(0, hand), (1, task)}
            if ends & seen and not ends <= seen:
                seen |= ends
                grown = True
    return len(seen) == many + number


def webs_of(many, number):
    """All WEBS of so many HANDS and TASKS."""
    every = list(product(range(many), range(number)))
    for size in range(many + number - 1, len(every) + 1):
        for ties in combinations(every, size):
            if hang(many, number, ties):
                yield many, number, ties


def small_webs():
    """All WEBS of at most three HANDS and three TASKS."""
    return [web for many in (1, 2, 3) for number in (1, 2, 3) for web in webs_of(many, number)]


def some_webs():
    """All WEBS up to five PLACES, and each seventh one of the greater ones."""
    every = small_webs()
    return [web for at, web in enumerate(every) if web[0] + web[1] < 6 or at % 7 == 0]


def greater_webs():
    """Some WEBS of four HANDS and three or four TASKS."""
    narrow, broad = list(webs_of(4, 3)), list(webs_of(4, 4))
    return narrow[::397] + broad[::6011]


def lots(many):
    """All LOTS of a SIDE of so many."""
    return [lot for size in range(1, many + 1) for lot in combinations(range(many), size)]


def neighbours(web, side, lot):
    return tuple(sorted({tie[1 - side] for tie in web[2] if tie[side] in lot}))


def pieces(web, side, lot):
    found = []
    for place in lot:
        near = set(neighbours(web, side, (place,)))
        piece = {place}
        apart = []
        for other, met in found:
            if near & met:
                piece, near = piece | other, near | met
            else:
                apart.append((other, met))
        found = apart + [(piece, near)]
    return tuple(sorted(tuple(sorted(piece)) for piece, _ in found))


def rank(web, side, lot):
    return len(neighbours(web, side, lot)) - len(pieces(web, side, lot))


@lru_cache(maxsize=None)
def trees(web):
    """All TREES, ascending."""
    many, number, ties = web
    return [tree for tree in combinations(ties, many + number - 1) if hang(many, number, tree)]


def row(web, tree, side):
    return tuple(sum(tie[side] == place for tie in tree) - 1 for place in range(web[side]))


def rows(web, side):
    """All ROWS, ascending, each the ROW of a TREE."""
    return sorted({row(web, tree, side) for tree in trees(web)})


def calls(web, side):
    """All CALLS, ascending."""
    together = web[1 - side] - 1
    return [own for own in product(range(together + 1), repeat=web[side]) if sum(own) == together]


def bars(web, side, call):
    """All BARS of call."""
    return [
        lot
        for lot in lots(web[side])
        if sum(call[place] for place in lot) >= len(neighbours(web, side, lot))
    ]


def orders(web):
    """Some ORDERS: up, down, by TASKS, and two mixed ones."""
    ties = web[2]
    mixed = [tuple(sorted(ties, key=lambda tie: ((tie[0] * by + tie[1] * 3) % 7, tie))) for by in (5, 2)]
    return [ties, ties[::-1], tuple(sorted(ties, key=lambda tie: tie[::-1]))] + mixed


def part(tree, tie, side):
    """The PLACES that hang together with the end of tie once it is out."""
    seen = {(side, tie[side])}
    grown = True
    while grown:
        grown = False
        for own in tree:
            ends = {(0, own[0]), (1, own[1])}
            if own != tie and ends & seen and not ends <= seen:
                seen |= ends
                grown = True
    return seen


@lru_cache(maxsize=None)
def share(tree, tie, side):
    return len([place for place in part(tree, tie, side) if place[0] == side])


def shares(tree, order, side):
    return tuple(share(tree, tie, side) if tie in tree else 0 for tie in order)


def price(web, order, tie):
    return (web[0] + web[1] + 1) ** (len(order) - 1 - order.index(tie))


def cost(web, tree, order, side):
    return sum(price(web, order, tie) * share(tree, tie, side) for tie in tree)


def potentials(web, tree, order):
    """Told from the first HAND on, TIE by TIE."""
    told = {(0, 0): 0}
    while len(told) < web[0] + web[1]:
        for tie in tree:
            hand, task = (0, tie[0]), (1, tie[1])
            if hand in told:
                told[task] = price(web, order, tie) - told[hand]
            elif task in told:
                told[hand] = price(web, order, tie) - told[task]
    return tuple(tuple(told[(side, number)] for number in range(web[side])) for side in (0, 1))


def gap(web, tree, order, tie):
    hands, tasks = potentials(web, tree, order)
    return price(web, order, tie) - hands[tie[0]] - tasks[tie[1]]


def under(web, tree, order):
    hands, tasks = potentials(web, tree, order)
    return tuple(tie for tie in web[2] if hands[tie[0]] + tasks[tie[1]] > price(web, order, tie))


def tights(web, order, side):
    """For each ROW of this SIDE the TREE of all with it whose SHARES are least."""
    best = {}
    for tree in trees(web):
        own = row(web, tree, side)
        if own not in best or shares(tree, order, side) < shares(best[own], order, side):
            best[own] = tree
    return best


def way(tree, tie):
    """The TIES of tree that lead from the HAND of tie to its TASK."""
    waiting = [((0, tie[0]), ())]
    while waiting:
        place, gone = waiting.pop()
        if place == (1, tie[1]):
            return gone
        for own in tree:
            if own not in gone and place in ((0, own[0]), (1, own[1])):
                beyond = (1, own[1]) if place[0] == 0 else (0, own[0])
                waiting.append((beyond, gone + (own,)))


def falls(web, order, side, tree):
    """All FALLS, ascending."""
    found = []
    for put in under(web, tree, order):
        lose = way(tree, put)[::2]
        found.append((put, min(lose, key=lambda tie: share(tree, tie, side))))
    return found


def swapped(tree, put, out):
    return tuple(sorted(set(tree) - {out} | {put}))


def rings(many, number):
    """All tuples (hand, task, ..) of two or more of so many HANDS and TASKS."""
    for size in range(2, min(many, number) + 1):
        for hands in permutations(range(many), size):
            for tasks in permutations(range(number), size):
                yield tuple(own for pair in zip(hands, tasks) for own in pair)


def ring_ties(ring):
    """The TIES gone from HAND to TASK, and those gone from TASK to HAND."""
    size = len(ring)
    there = {(ring[at], ring[at + 1]) for at in range(0, size, 2)}
    return there, {(ring[(at + 1) % size], ring[at]) for at in range(1, size, 2)}


def crossings(web, tree, other):
    """All CROSSINGS of tree and other."""
    found = []
    for ring in rings(web[0], web[1]):
        there, back = ring_ties(ring)
        if there <= set(tree) and back <= set(other):
            found.append(ring)
    return found
