"""Plain walks over small WEBS, to hold the package against: each tells by its
definition alone what the package finds in other ways."""

from itertools import combinations, product


def listed(value):
    """value with lists for all tuples in it."""
    if isinstance(value, tuple):
        return [listed(own) for own in value]
    return value


def hang(many, number, ties):
    """Whether so many HANDS and TASKS hang together by ties."""
    seen = {(0, 0)}
    grown = True
    while grown:
        grown = False
        for hand, task in ties:
            ends = {(0, hand), (1, task)}
            if ends & seen and not ends <= seen:
                seen |= ends
                grown = True
    return len(seen) == many + number


def webs_of(many, number):
    """All WEBS of so many HANDS and TASKS."""
    every = list(product(range(many), range(number)))
    for size in range(many + number - 1, len(every) + 1):
        for ties in combinations(every, size):
            if hang(many, number, ties):
                yield many, number, ties


def small_webs():
    """All WEBS of at most three HANDS and three TASKS."""
    return [web for many in (1, 2, 3) for number in (1, 2, 3) for web in webs_of(many, number)]


def some_webs():
    """All WEBS up to five PLACES, and each seventh one of the greater ones."""
    every = small_webs()
    return [web for at, web in enumerate(every) if web[0] + web[1] < 6 or at % 7 == 0]


def greater_webs():
    """Some WEBS of four HANDS and three or four TASKS."""
    narrow, broad = list(webs_of(4, 3)), list(webs_of(4, 4))
    return narrow[::397] + broad[::6011]


def lots(many):
    """All LOTS of a SIDE of so many."""
    return [lot for size in range(1, many + 1) for lot in combinations(range(many), size)]


def neighbours(web, side, lot):
    return tuple(sorted({tie[1 - side] for tie in web[2] if tie[side] in lot}))


def pieces(web, side, lot):
    found = []
    for place in lot:
        near = set(neighbours(web, side, (place,)))
        piece = {place}
        apart = []
        for other, met in found:
            if near & met:
                piece, near = piece | other, near | met
            else:
                apart.append((other, met))
        found = apart + [(piece, near)]
    return tuple(sorted(tuple(sorted(piece)) for piece, _ in found))


def rank(web, side, lot):
    return len(neighbours(web, side, lot)) - len(pieces(web, side, lot))


def trees(web):
    """All TREES, ascending."""
    many, number, ties = web
    return [tree for tree in combinations(ties, many + number - 1) if hang(many, number, tree)]


def row(web, tree, side):
    return tuple(sum(tie[side] == place for tie in tree) - 1 for place in range(web[side]))


def rows(web, side):
    """All ROWS, ascending, each the ROW of a TREE."""
    return sorted({row(web, tree, side) for tree in trees(web)})


def calls(web, side):
    """All CALLS, ascending."""
    together = web[1 - side] - 1
    return [own for own in product(range(together + 1), repeat=web[side]) if sum(own) == together]


def bars(web, side, call):
    """All BARS of call."""
    return [
        lot
        for lot in lots(web[side])
        if sum(call[place] for place in lot) >= len(neighbours(web, side, lot))
    ]
