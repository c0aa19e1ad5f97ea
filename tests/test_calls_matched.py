"""[2] and [3] for the calls of [14] to [17]: lists, names, wrong arguments."""

import unittest

from eachhandtied import crossing, handings, neighbours, partners
from tests.call_checks import CallChecks
from tests.wrong import HOUSE, TREE
from tests.wrong import NO_HANDINGS, NO_ORDERS, NO_PAIRS, NO_PLANS, NO_RINGS, NO_ROWS, NO_SIDES, NO_TREES, NO_WEBS

UP, DOWN = HOUSE[2], HOUSE[2][::-1]
# TIGHT by UP; TREE is not, and crosses LAST.
FIRST = ((0, 0), (0, 1), (1, 0), (2, 1), (2, 2))
LAST = ((0, 1), (1, 0), (1, 1), (2, 1), (2, 2))

WRONG = {
    "web": NO_WEBS,
    "side": NO_SIDES,
    "order": NO_ORDERS,
    "tree": NO_TREES,
    "other": NO_TREES,
    "tie": NO_PAIRS,
    "row": NO_ROWS,
    "goal": NO_ROWS,
    "ring": NO_RINGS + [(0, 1, 1, 0), (1, 0, 0, 1)],
    "handing": NO_HANDINGS,
    "plan": NO_PLANS,
    ("are_partners", "goal"): NO_ROWS[:-4] + [(1, 0, 1), (0, 1, 1), (0, 0, 2)],
    ("led_unlike", "other"): NO_ORDERS,
    ("order_leads_alike", "other"): NO_ORDERS,
    ("alike_trees", "other"): NO_ORDERS,
}

# A call of each function, with all its arguments in their order.
CALLS = [
    (partners.partner, {"web": HOUSE, "order": UP, "side": 0, "row": (1, 0, 1)}),
    (partners.are_partners, {"web": HOUSE, "order": UP, "side": 0, "row": (1, 0, 1), "goal": (1, 1, 0)}),
    (partners.all_tight, {"web": HOUSE, "order": UP}),
    (partners.partners, {"web": HOUSE, "order": UP}),
    (
        partners.is_matched,
        {"web": HOUSE, "order": UP, "thing": (((0, 1, 1), (0, 2, 0)), ((1, 0, 1), (1, 1, 0)))},
    ),
    (partners.tie_tight, {"web": HOUSE, "order": UP, "tie": (1, 1)}),
    (partners.led_unlike, {"web": HOUSE, "order": UP, "other": UP[1:] + UP[:1]}),
    (partners.order_leads_alike, {"web": HOUSE, "order": UP, "other": DOWN}),
    (partners.alike_trees, {"web": HOUSE, "order": UP, "other": DOWN}),
    (crossing.crossing, {"web": HOUSE, "tree": TREE, "other": LAST}),
    (crossing.is_crossing, {"web": HOUSE, "tree": TREE, "other": LAST, "thing": (0, 0, 1, 1)}),
    (crossing.can_cross, {"web": HOUSE, "tree": TREE, "other": LAST}),
    (crossing.crossed_ties, {"web": HOUSE, "tree": TREE, "other": LAST}),
    (crossing.crossing_ties, {"web": HOUSE, "tree": TREE, "other": LAST, "ring": (1, 1, 0, 0)}),
    (crossing.slack_one, {"web": HOUSE, "order": UP, "tree": TREE, "other": LAST, "ring": (1, 1, 0, 0)}),
    (crossing.gone_back, {"web": HOUSE, "tree": TREE, "other": LAST, "ring": (1, 1, 0, 0)}),
    (neighbours.over, {"web": HOUSE, "order": UP, "tree": FIRST, "tie": (0, 0)}),
    (neighbours.all_neighbours, {"web": HOUSE, "order": UP, "tree": FIRST}),
    (neighbours.lone_ties, {"web": HOUSE, "order": UP, "tree": FIRST}),
    (neighbours.is_neighbour, {"web": HOUSE, "order": UP, "tree": FIRST, "thing": LAST}),
    (neighbours.handed_over, {"web": HOUSE, "order": UP, "tree": FIRST, "tie": (0, 0)}),
    (neighbours.walked, {"web": HOUSE, "order": UP, "tree": FIRST, "other": LAST}),
    (neighbours.is_walk, {"web": HOUSE, "order": UP, "tree": FIRST, "other": LAST, "thing": (FIRST, LAST)}),
    (handings.can_hand, {"web": HOUSE, "side": 0, "row": (1, 0, 1), "handing": (0, 1)}),
    (handings.handed, {"web": HOUSE, "side": 0, "row": (1, 0, 1), "handing": (0, 1)}),
    (handings.handings, {"web": HOUSE, "side": 0, "row": (1, 0, 1)}),
    (handings.why_not_handed, {"web": HOUSE, "side": 0, "row": (1, 0, 1), "handing": (2, 0)}),
    (
        handings.is_why_not_handed,
        {"web": HOUSE, "side": 0, "row": (1, 0, 1), "handing": (2, 0), "thing": ("full", (0,))},
    ),
    (handings.fewest_handings, {"web": HOUSE, "side": 0, "row": (1, 0, 1), "goal": (0, 1, 1)}),
    (handings.plan, {"web": HOUSE, "side": 0, "row": (1, 0, 1), "goal": (0, 1, 1)}),
    (handings.is_plan, {"web": HOUSE, "side": 0, "row": (1, 0, 1), "goal": (0, 1, 1), "thing": ((0, 1),)}),
    (handings.led_by, {"web": HOUSE, "side": 0, "row": (1, 0, 1), "plan": ((0, 1), (1, 0), (0, 1))}),
    (handings.plan_back, {"web": HOUSE, "side": 0, "row": (1, 0, 1), "plan": ((0, 1), (1, 0), (0, 1))}),
]
LISTS = {"all_tight", "partners", "tie_tight", "led_unlike", "alike_trees", "all_neighbours"}


class Calls(CallChecks, unittest.TestCase):
    calls, wrong, lists = CALLS, WRONG, LISTS

    def test_empty_plans(self):
        self.assertEqual(handings.led_by(HOUSE, 0, (1, 0, 1), []), (1, 0, 1))
        self.assertEqual(handings.plan_back(HOUSE, 0, (1, 0, 1), []), ())


if __name__ == "__main__":
    unittest.main()
