"""[2] and [3] for the calls of [22] to [24]: lists, names, wrong arguments."""

import unittest

from eachhandtied import judge, lost, worths
from tests.call_checks import CallChecks
from tests.wrong import HOUSE, TREE
from tests.wrong import NO_DEMANDS, NO_PAIRS, NO_ROWS, NO_SIDES, NO_WEBS, NO_WORTHS

UP = HOUSE[2]
FALLEN = ("row", HOUSE, 0, (2, 0, 0))
STANDING = ("partner", HOUSE, UP, (1, 0, 1), (1, 1, 0))
FIRST = ((0, 0), (0, 1), (1, 0), (2, 1), (2, 2))

WRONG = {
    "web": NO_WEBS,
    "side": NO_SIDES,
    "row": NO_ROWS,
    "worths": NO_WORTHS,
    "tie": NO_PAIRS,
    "demand": NO_DEMANDS,
    "demands": [None, 0, "row", STANDING] + [(STANDING, own) for own in NO_DEMANDS],
}

# A call of each function, with all its arguments in their order.
CALLS = [
    (worths.worth, {"web": HOUSE, "side": 0, "row": (1, 0, 1), "worths": (5, -1, 2)}),
    (worths.best_worth, {"web": HOUSE, "side": 0, "worths": (5, -1, 2)}),
    (worths.best_row, {"web": HOUSE, "side": 0, "worths": (5, -1, 2)}),
    (worths.is_best_row, {"web": HOUSE, "side": 0, "worths": (5, -1, 2), "thing": (1, 0, 1)}),
    (worths.all_best, {"web": HOUSE, "side": 0, "worths": (5, 5, 2)}),
    (worths.levels, {"web": HOUSE, "side": 0, "worths": (5, -1, 2)}),
    (worths.better, {"web": HOUSE, "side": 0, "row": (0, 1, 1), "worths": (5, -1, 2)}),
    (worths.is_better, {"web": HOUSE, "side": 0, "row": (0, 1, 1), "worths": (5, -1, 2), "thing": (1, 0)}),
    (lost.without, {"web": HOUSE, "tie": (1, 1)}),
    (lost.lost_rows, {"web": HOUSE, "side": 0, "tie": (1, 1)}),
    (lost.is_lost, {"web": HOUSE, "side": 0, "row": (0, 1, 1), "tie": (1, 1)}),
    (lost.must_ties, {"web": HOUSE, "side": 0, "row": (0, 1, 1)}),
    (lost.tree_with, {"web": HOUSE, "side": 0, "row": (1, 0, 1), "tie": (1, 1)}),
    (lost.is_tree_with, {"web": HOUSE, "side": 0, "row": (1, 0, 1), "tie": (1, 1), "thing": TREE}),
    (lost.least_share, {"web": HOUSE, "side": 0, "row": (0, 1, 1), "tie": (1, 1)}),
    (judge.is_demand, {"thing": STANDING}),
    (judge.is_so, {"demand": STANDING}),
    (judge.paper_against, {"demand": FALLEN}),
    (judge.is_paper_against, {"demand": FALLEN, "thing": (0, 1)}),
    (judge.reason_for, {"demand": STANDING}),
    (judge.is_reason_for, {"demand": STANDING, "thing": FIRST}),
    (judge.first_fallen, {"demands": (STANDING, FALLEN, STANDING)}),
]
LISTS = {"all_best", "lost_rows"}


class Calls(CallChecks, unittest.TestCase):
    calls, wrong, lists = CALLS, WRONG, LISTS

    def test_calls_that_tell_none(self):
        self.assertIsNone(judge.paper_against(list(STANDING)))
        self.assertIsNone(judge.reason_for(list(FALLEN)))
        self.assertIsNone(judge.first_fallen([STANDING, list(STANDING)]))


if __name__ == "__main__":
    unittest.main()
