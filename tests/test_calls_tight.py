"""[2] and [3] for the calls of [10] to [13]: lists, names, wrong arguments, and
which error is ahead of which."""

import unittest

from eachhandtied import filled, prices, shares, tight
from eachhandtied.errors import CanNot, NoPlace, NoTie, Unfit
from tests.call_checks import CallChecks
from tests.wrong import HOUSE, TREE, raised
from tests.wrong import NO_CALLS, NO_FALLS, NO_FILLINGS, NO_ORDERS, NO_PAIRS, NO_RINGS, NO_ROWS, NO_SHARES, NO_SIDES
from tests.wrong import NO_TREES, NO_WEBS

ORDER = ((0, 0), (1, 0), (0, 1), (2, 2), (1, 1), (2, 1))
FILLING = (3, 1, 0, 1, 1, 3)
SHARES = (((0, 0), 3), ((0, 1), 1), ((1, 1), 1), ((2, 1), 1), ((2, 2), 3))
FALL = ((1, 0), (1, 1))
POTENTIALS = ((0, -336, -342), (16807, 343, 391))

WRONG = {
    "web": NO_WEBS,
    "side": NO_SIDES,
    "tree": NO_TREES,
    "other": NO_TREES,
    "order": NO_ORDERS,
    "tie": NO_PAIRS,
    "place": NO_PAIRS,
    "call": NO_CALLS,
    "row": NO_ROWS,
    "filling": NO_FILLINGS,
    "shares": NO_SHARES,
    "ring": NO_RINGS,
    "fall": NO_FALLS,
}

# A call of each function, with all its arguments in their order.
CALLS = [
    (filled.filling, {"web": HOUSE, "side": 0, "call": (1, 0, 1)}),
    (filled.is_filling, {"web": HOUSE, "side": 0, "call": (1, 0, 1), "thing": FILLING}),
    (filled.tree_for, {"web": HOUSE, "side": 0, "call": (1, 0, 1)}),
    (filled.is_tree_for, {"web": HOUSE, "side": 0, "call": (1, 0, 1), "thing": TREE}),
    (filled.filling_by, {"web": HOUSE, "side": 0, "tree": TREE}),
    (filled.tree_within, {"web": HOUSE, "side": 0, "call": (1, 0, 1), "filling": FILLING}),
    (filled.is_tree_within, {"web": HOUSE, "side": 0, "call": (1, 0, 1), "filling": FILLING, "thing": TREE}),
    (shares.share, {"web": HOUSE, "tree": TREE, "tie": (2, 2), "side": 0}),
    (shares.tree_shares, {"web": HOUSE, "tree": TREE, "side": 1}),
    (shares.shares_by, {"web": HOUSE, "tree": TREE, "order": ORDER, "side": 1}),
    (shares.shares_round, {"web": HOUSE, "tree": TREE, "side": 1, "place": (0, 2)}),
    (shares.carried, {"web": HOUSE, "tree": TREE, "tie": (2, 2), "side": 1}),
    (shares.is_shares, {"web": HOUSE, "side": 0, "thing": SHARES}),
    (shares.row_by_shares, {"web": HOUSE, "side": 0, "shares": SHARES}),
    (shares.other_shares, {"web": HOUSE, "side": 0, "shares": SHARES}),
    (prices.price, {"web": HOUSE, "order": ORDER, "tie": (2, 2)}),
    (prices.prices, {"web": HOUSE, "order": ORDER}),
    (prices.potentials, {"web": HOUSE, "tree": TREE, "order": ORDER}),
    (prices.is_potentials, {"web": HOUSE, "tree": TREE, "order": ORDER, "thing": POTENTIALS}),
    (prices.gap, {"web": HOUSE, "tree": TREE, "order": ORDER, "tie": (1, 0)}),
    (prices.under, {"web": HOUSE, "tree": TREE, "order": ORDER}),
    (prices.most_under, {"web": HOUSE, "tree": TREE, "order": HOUSE[2]}),
    (prices.cost, {"web": HOUSE, "tree": TREE, "order": ORDER, "side": 0}),
    (prices.is_cheaper, {"web": HOUSE, "tree": TREE, "other": TREE, "order": ORDER, "side": 1}),
    (prices.balance, {"web": HOUSE, "order": ORDER, "ring": (0, 0, 1, 1)}),
    (tight.is_tight, {"web": HOUSE, "order": ORDER, "tree": TREE}),
    (tight.losing, {"web": HOUSE, "order": HOUSE[2], "tree": TREE, "tie": (1, 0)}),
    (tight.all_falls, {"web": HOUSE, "order": HOUSE[2], "side": 0, "tree": TREE}),
    (tight.is_fall, {"web": HOUSE, "order": HOUSE[2], "side": 0, "tree": TREE, "thing": FALL}),
    (tight.fallen, {"web": HOUSE, "order": HOUSE[2], "side": 0, "tree": TREE, "fall": FALL}),
    (tight.falls_down, {"web": HOUSE, "order": HOUSE[2], "side": 0, "tree": TREE}),
    (tight.tight_tree, {"web": HOUSE, "order": ORDER, "side": 0, "row": (1, 0, 1)}),
    (tight.is_tightest, {"web": HOUSE, "order": ORDER, "side": 0, "tree": TREE}),
]


class Calls(CallChecks, unittest.TestCase):
    calls, wrong, lists = CALLS, WRONG, {"all_falls", "falls_down"}


class Refusals(unittest.TestCase):
    def told(self, error, kind, **worths):
        self.assertIs(type(error), kind)
        self.assertEqual(repr(vars(error)), repr(worths))

    def test_all_unfit_ones_are_ahead(self):
        for call, rest in (
            (filled.filling, (HOUSE, 2, (2, 0, 0))),
            (filled.tree_for, (None, 0, (2, 0, 0))),
            (shares.share, (HOUSE, TREE, (9, 9), 2)),
            (shares.share, (HOUSE, TREE, (1, 0), 2)),
            (shares.share, (HOUSE, TREE[1:], (9, 9), 0)),
            (shares.carried, (HOUSE, TREE, (9, 9), True)),
            (shares.carried, (HOUSE, TREE, (1, 0), None)),
            (shares.shares_round, (HOUSE, TREE, 2, (9, 9))),
            (shares.shares_round, (HOUSE, None, 0, (9, 9))),
            (prices.price, (HOUSE, ORDER[1:], (9, 9))),
            (prices.gap, (HOUSE, TREE, ORDER[1:], (9, 9))),
            (prices.gap, (HOUSE, TREE[1:], ORDER, (9, 9))),
            (prices.most_under, (HOUSE, TREE, ORDER[1:])),
            (prices.is_cheaper, (HOUSE, TREE, TREE[1:], ORDER, 0)),
            (tight.losing, (HOUSE, ORDER[1:], TREE, (9, 9))),
            (tight.losing, (HOUSE, ORDER, TREE[1:], (0, 0))),
            (tight.fallen, (HOUSE, ORDER, 0, TREE[1:], ((0, 0), (0, 0)))),
            (tight.fallen, (HOUSE, ORDER, 2, TREE, ((0, 0), (0, 0)))),
        ):
            with self.subTest(call=call.__name__, rest=rest):
                self.assertIs(type(raised(call, *rest)), Unfit)

    def test_no_tie_is_ahead_of_can_not(self):
        for wrong in ((0, 2), (2, 0), (3, 3), (0, -2), (-1, 0), (10**6, 0), (10**6 + 1, 0)):
            for told in (wrong, list(wrong)):
                for side in (0, 1):
                    self.told(raised(shares.share, HOUSE, TREE, told, side), NoTie, tie=wrong)
                    self.told(raised(shares.carried, HOUSE, TREE, told, side), NoTie, tie=wrong)
                self.told(raised(prices.price, HOUSE, ORDER, told), NoTie, tie=wrong)
                self.told(raised(prices.gap, HOUSE, TREE, ORDER, told), NoTie, tie=wrong)
                self.told(raised(tight.losing, HOUSE, ORDER, TREE, told), NoTie, tie=wrong)

    def test_no_place(self):
        for wrong in ((0, 3), (1, -1), (2, 0), (-1, 0), (0, 10**6), (0, 10**6 + 1)):
            for told in (wrong, list(wrong)):
                for side in (0, 1):
                    self.told(raised(shares.shares_round, HOUSE, TREE, side, told), NoPlace, place=wrong)

    def test_can_not(self):
        for call in (1, 0, 1), (0, 1, 1):
            self.assertIsNone(raised(filled.filling, HOUSE, 0, call))
        for call in (2, 0, 0), (0, 2, 0), (0, 0, 2), (1, 1, 0):
            self.told(raised(filled.filling, HOUSE, 0, call), CanNot)
            self.told(raised(filled.tree_for, HOUSE, 0, call), CanNot)
        self.told(raised(shares.share, HOUSE, TREE, (1, 0), 0), CanNot)
        self.told(raised(shares.carried, HOUSE, TREE, (1, 0), 1), CanNot)
        tied = ((0, 0), (0, 1), (1, 0), (2, 1), (2, 2))
        self.assertIs(tight.is_tight(HOUSE, HOUSE[2], tied), True)
        self.told(raised(prices.most_under, HOUSE, tied, HOUSE[2]), CanNot)
        for tie in HOUSE[2]:
            self.told(raised(tight.losing, HOUSE, HOUSE[2], tied, tie), CanNot)
            self.told(raised(tight.fallen, HOUSE, HOUSE[2], 0, tied, (tie, (0, 1))), CanNot)
        self.told(raised(tight.fallen, HOUSE, HOUSE[2], 0, TREE, FALL[::-1]), CanNot)
        self.told(raised(tight.fallen, HOUSE, HOUSE[2], 0, TREE, ((1, 0), (0, 0))), CanNot)


if __name__ == "__main__":
    unittest.main()
