"""What hangs together by ties of hands and tasks."""


def top_of(above, at):
    """The one that stands for all that at is joined with so far."""
    while above[at] != at:
        above[at] = above[above[at]]
        at = above[at]
    return at


def forest(many, number, ties):
    """The list of those ties that join what those ahead of them do not."""
    above = list(range(many + number))
    joining = []
    for tie in ties:
        hand, task = top_of(above, tie[0]), top_of(above, many + tie[1])
        if hand != task:
            above[hand] = task
            joining.append(tie)
    return joining


def holds(many, number, ties):
    """Whether ties hold so many hands and so many tasks together."""
    need = many + number - 1
    # The first test also keeps forest from a list for more places than ties
    # could join, as the numbers may be of any size.
    return len(ties) >= need and len(forest(many, number, ties)) == need


def near_of(web, side):
    """For each place of this side the list of those it is tied to."""
    near = [[] for k in range(web[side])]
    for tie in web[2]:
        near[tie[side]].append(tie[1 - side])
    return near


def met_by(near, lot):
    """The set of all that those of lot are tied to."""
    return tuple(sorted({other for place in lot for other in near[place]}))


def pieces_of(near, lot):
    """The set of the pieces into which lot comes apart."""
    top = {}
    above = list(range(len(near)))
    for place in lot:
        for other in near[place]:
            first = top.setdefault(other, place)
            above[top_of(above, place)] = top_of(above, first)
    found = {}
    for place in lot:
        found.setdefault(top_of(above, place), []).append(place)
    return tuple(sorted([tuple(found[own]) for own in found]))


def rank_of(near, lot):
    """How many lot has as neighbours, less how many pieces; 0 for ()."""
    return len(met_by(near, lot)) - len(pieces_of(near, lot))
