"""Wrong values of each kind, and what a call with them raises."""

HOUSE = (3, 3, ((0, 0), (0, 1), (1, 0), (1, 1), (2, 1), (2, 2)))
TREE = ((0, 0), (0, 1), (1, 1), (2, 1), (2, 2))
FULL = (12, 5, tuple((hand, task) for hand in range(12) for task in range(5)))
STAR = (12, 1, tuple((hand, 0) for hand in range(12)))
# 60 TIES of 12 HANDS and 12 TASKS, and one more of each beyond the bounds.
BROAD = (12, 12, tuple(sorted((hand, (hand + more) % 12) for hand in range(12) for more in range(5))))
BEYOND = (13, 13, tuple(sorted([(hand, (hand + more) % 13) for more in range(5) for hand in range(13)][:61])))

NO_WEBS = [
    None,
    True,
    0,
    "web",
    (),
    (1, 1),
    (1, 1, ((0, 0),), 0),
    (True, 1, ((0, 0),)),
    (1, True, ((0, 0),)),
    (0, 1, ()),
    (1, 0, ()),
    (1, 1, ()),
    (-1, 1, ((0, 0),)),
    ("1", 1, ((0, 0),)),
    (1, 1, None),
    (1, 1, "00"),
    (1, 1, (0, 0)),
    (1, 1, ((0,),)),
    (1, 1, ((0, 0, 0),)),
    (1, 1, ((False, 0),)),
    (1, 1, ((0, None),)),
    (1, 1, ((0, "0"),)),
    (1, 1, (((0,), (0,)),)),
    (1, 1, ((0, 1),)),
    (1, 1, ((-1, 0),)),
    (1, 1, ((0, 0), (0, 0))),
    (1, 1, ((0, 0), (0, 1))),
    (1, 2, ((0, 1), (0, 0))),
    (1, 2, ((0, 0),)),
    (2, 2, ((0, 0), (1, 1))),
    (2, 2, ((0, 0), (0, 1), (1, 2))),
    (3, 3, ((0, 0), (0, 1), (1, 0), (1, 1), (2, 2))),
    [1, 1, [[0, 0]], []],
]
NO_SIDES = [None, True, False, 2, -1, "0", (0,), [], 10**6]
NO_PAIRS = [None, True, 0, "00", (), (0,), (0, 0, 0), (True, 0), (0, False), (None, 0), ("0", 0), ((0,), 0), [0, [0]]]
NO_LOTS = [None, True, 0, "0", (), [], (3,), (-1,), (0, 0), (1, 0), (0, 3), (0, 1, 2, 3), (True,), (None,), ((0,),), ("0",)]


NO_TREES = [
    None,
    0,
    "tree",
    (),
    TREE[:4],
    TREE[::-1],
    TREE + ((1, 0),),
    TREE[1:] + TREE[:1],
    ((0, 0), (0, 1), (1, 0), (1, 1), (2, 2)),
    ((0, 0), (0, 0), (0, 1), (1, 1), (2, 2)),
    ((0, 0), (0, 1), (1, 1), (2, 0), (2, 2)),
    ((0, 0), (0, 1), (1, 1), (2, 2), (2, 3)),
    ((False, 0),) + TREE[1:],
    ((0, 0, 0),) + TREE[1:],
    (None,) + TREE[1:],
]
NO_CALLS = [
    None,
    2,
    "101",
    (),
    (2,),
    (1, 1),
    (1, 1, 0, 0),
    (1, 1, 1),
    (0, 0, 0),
    (3, -1, 0),
    (True, 0, 1),
    (None, 1, 1),
    ((1,), 0, 1),
]
NO_ROWS = NO_CALLS + [(2, 0, 0), (0, 2, 0), (1, 1, 0), (0, 0, 2)]
NO_NAMES = [None, 3, "012", (), (0, 1), (0, 1, 2, 3), (0, 0, 1), (1, 2, 3), (-1, 0, 1), (True, 0, 2), (None, 1, 2)]
NO_NUMBERS = [None, True, False, "1", (), (1,), [1]]
# Of HOUSE, the SIDE of the HANDS, the CALL (1, 0, 1) and TREE.
NO_ORDERS = [
    None,
    0,
    "order",
    (),
    HOUSE[2][1:],
    HOUSE[2] + HOUSE[2][:1],
    HOUSE[2][:5] + HOUSE[2][:1],
    HOUSE[2][:5] + ((2, 0),),
    HOUSE[2][:5] + ((2, 3),),
    HOUSE[2][:5] + ((2, True),),
    HOUSE[2][:5] + (("2", "2"),),
    HOUSE[2][:5] + ((2, 2, 0),),
    HOUSE[2][:5] + ((2,),),
    HOUSE[2][:5] + (((2, 2),),),
    HOUSE[2][:5] + (None,),
    ((False, 0),) + HOUSE[2][1:],
    (HOUSE[2],),
    (0, 1, 2, 3, 4, 5),
]
NO_FILLINGS = [
    None,
    9,
    "310113",
    (),
    (3, 1, 0, 1, 1),
    (3, 1, 0, 1, 1, 3, 0),
    (3, 1, 0, 1, 0, 4),
    (4, 0, -1, 2, 1, 3),
    (2, 2, 1, 1, 0, 3),
    (0, 0, 0, 0, 0, 0),
    (3, True, 0, 1, 1, 3),
    (3, 1, False, 1, 1, 3),
    (3, 1, None, 1, 1, 3),
    (3, 1, "0", 1, 1, 3),
    (3, 1, (0,), 1, 1, 3),
    ((3, 1, 0, 1, 1, 3),),
]
NO_SHARES = [
    None,
    3,
    "shares",
    (),
    (3, 1, 1, 1, 3),
    (((0, 0), 3), ((0, 1), 1), ((1, 1), 1), ((2, 1), 1)),
    (((0, 0), 3), ((0, 1), 1), ((1, 1), 1), ((2, 2), 3), ((2, 1), 1)),
    (((0, 0), 3), ((0, 1), 1), ((1, 1), 1), ((2, 1), 1), ((2, 2), 2)),
    (((0, 0), 3), ((0, 1), 1), ((1, 1), 1), ((2, 1), True), ((2, 2), 3)),
    (((0, 0), 3), ((0, 1), 1), ((1, 1), 1), ((2, 1), None), ((2, 2), 3)),
    (((0, 0), 3), ((0, 1), 1), ((1, 1), 1), ((2, 1),), ((2, 2), 3)),
    (((0, 0), 3), ((0, 1), 1), ((1, 1), 1), ((2, 1), 1, 0), ((2, 2), 3)),
    (((0, 0), 3), ((0, 1), 1), ((1, 1), 1), (None, 1), ((2, 2), 3)),
    (((0, False), 3), ((0, 1), 1), ((1, 1), 1), ((2, 1), 1), ((2, 2), 3)),
    (((0, 0), (3,)), ((0, 1), 1), ((1, 1), 1), ((2, 1), 1), ((2, 2), 3)),
    # Those by the TASKS.
    (((0, 0), 1), ((0, 1), 2), ((1, 1), 3), ((2, 1), 2), ((2, 2), 1)),
]
NO_RINGS = [
    None,
    0,
    "0011",
    (),
    (0, 0),
    (0, 0, 1),
    (0, 0, 1, 1, 2),
    (0, 0, 0, 1),
    (0, 0, 1, 0),
    (0, 0, 2, 2),
    (0, 0, 1, 1, 0, 0, 1, 1),
    (0, 0, 1, 1, 2, 2),
    (0, 0, 1, 3),
    (0, 0, 1, -2),
    (False, 0, 1, 1),
    (0, 0, True, 1),
    (0, 0, None, 1),
    (0, "0", 1, 1),
    ((0, 0), (1, 1)),
    ((0, 0, 1, 1),),
]
NO_FALLS = [
    None,
    0,
    "fall",
    (),
    (1, 0),
    ((1, 0),),
    ((1, 0), (1, 1), (0, 0)),
    ((1, 0), (1, 2)),
    ((2, 0), (1, 1)),
    ((9, 9), (1, 1)),
    ((1, False), (1, 1)),
    ((1, 0), (True, 1)),
    ((1, 0), (1,)),
    ((1, 0), (1, 1, 1)),
    ((1, 0), None),
    (((1, 0), (1, 1)),),
]
NO_HANDINGS = [
    None,
    1,
    "01",
    (),
    (0,),
    (0, 0),
    (0, 3),
    (3, 0),
    (-1, 0),
    (0, -1),
    (0, 1, 2),
    (True, 0),
    (0, True),
    (None, 0),
    ("0", 1),
    ((0,), 1),
    ((0, 1),),
    (0, 10**6),
]
NO_PLANS = [None, 1, "plan", (0, 1), (((0, 1),),)] + [((0, 1), own) for own in NO_HANDINGS]

NO_NATURALS = NO_NUMBERS + [-1, -(10**6)]
NO_LIMITS = [
    None,
    0,
    "000",
    (),
    (0, 0),
    (0, 0, 0, 0),
    (-1, 0, 0),
    (0, 0, -1),
    (True, 0, 0),
    (0, False, 0),
    (None, 0, 0),
    ("0", 0, 0),
    ((0,), 0, 0),
    ((0, 0, 0),),
]
NO_BEGINNINGS = [None, 0, "0", (-1,), (0, -1), (True,), (0, False), (None,), ("0",), ((0,),), (0, 0, 0, 0), (0,) * 13]
NO_SHEETS = [
    None,
    0,
    "web 1 1",
    (),
    HOUSE,
    (HOUSE,),
    (HOUSE, ()),
    (HOUSE, (), (), ()),
    (HOUSE, None, ()),
    (HOUSE, (), None),
    (HOUSE, "", ()),
    (HOUSE, (), ""),
    (HOUSE, (), 0),
    (HOUSE, TREE, ()),
    (HOUSE, (TREE[:4],), ()),
    (HOUSE, (TREE, TREE[::-1]), ()),
    (HOUSE, (None,), ()),
    (HOUSE, ((),), ()),
    (HOUSE, (), (0, (1, 0, 1))),
    (HOUSE, (), ((0,),)),
    (HOUSE, (), ((0, (1, 0, 1), ()),)),
    (HOUSE, (), ((2, (1, 0, 1)),)),
    (HOUSE, (), ((-1, (1, 0, 1)),)),
    (HOUSE, (), ((False, (1, 0, 1)),)),
    (HOUSE, (), ((None, (1, 0, 1)),)),
    (HOUSE, (), ((0, (1, 0, 1)), (1, (1, 1, 1)))),
    (HOUSE, (), ((0, (True, 0, 1)),)),
    (HOUSE, (), ((0, (1, 1)),)),
    (HOUSE, (), ((0, None),)),
    (HOUSE, (), (None,)),
    (HOUSE[::-1], (), ()),
    ((1, 1, ()), (), ()),
    (None, (), ()),
]

NO_WORTHS = [None, 0, "123", (), (1, 2), (1, 2, 3, 4), (True, 2, 3), (1, False, 3), (None, 2, 3), ("1", 2, 3), ((1, 2, 3),)]


def no_demands():
    """What is no DEMAND: of each word, with each wrong value in each place."""
    up, row, other = HOUSE[2], (1, 0, 1), (1, 1, 0)
    sides = [own for own in NO_SIDES if own != []]
    kinds = [
        (("row", HOUSE, 0, row), (NO_WEBS, sides, NO_CALLS)),
        (("tight", HOUSE, up, TREE), (NO_WEBS, NO_ORDERS, NO_TREES)),
        (("partner", HOUSE, up, row, other), (NO_WEBS, NO_ORDERS, NO_ROWS, NO_CALLS + [(1, 0, 1), (0, 1, 1)])),
        (("far", HOUSE, 0, row, 0), (NO_WEBS, sides, NO_CALLS, NO_NATURALS)),
        (("worth", HOUSE, 0, (1, 2, 3), 0), (NO_WEBS, sides, NO_WORTHS, NO_NUMBERS)),
    ]
    found = [None, 0, "row", (), ("row",), (0, HOUSE, 0, row), (None, HOUSE, 0, row), (("row",), HOUSE, 0, row)]
    found += [("rows", HOUSE, 0, row), ("Row", HOUSE, 0, row), ("", HOUSE, 0, row), ("row ", HOUSE, 0, row)]
    for demand, wrong in kinds:
        found += [demand[:-1], demand + (0,), demand[1:], (demand,), demand[:1] + demand[:0:-1], demand[:2]]
        for at, values in enumerate(wrong):
            found += [demand[: at + 1] + (own,) + demand[at + 2 :] for own in values]
        # The numbers of a CALL may be WORTHS.
        others = [own[0] for own, _ in kinds if own[0] != demand[0] and (own[0], demand[0]) != ("worth", "far")]
        found += [(word,) + demand[1:] for word in others]
    return found


NO_DEMANDS = no_demands()


def raised(call, *rest):
    """The error that a call raises, None if it raises none."""
    try:
        call(*rest)
    except Exception as error:
        return error
    return None
