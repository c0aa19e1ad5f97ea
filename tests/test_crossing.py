"""[15]: CROSSINGS, against a plain walk over small WEBS."""

import unittest
from itertools import product

from eachhandtied.crossing import can_cross, crossed_ties, crossing, crossing_ties, gone_back, is_crossing, slack_one
from eachhandtied.errors import CanNot, Unfit
from eachhandtied.prices import balance
from eachhandtied.tight import is_tight, tight_tree
from tests import walks
from tests.walks import listed
from tests.wrong import BEYOND, BROAD, FULL, raised

SMALL = walks.some_webs()
WEB = (2, 3, ((0, 0), (0, 1), (0, 2), (1, 0), (1, 1), (1, 2)))
LEFT, RIGHT = ((0, 0), (0, 1), (0, 2), (1, 1)), ((0, 1), (0, 2), (1, 0), (1, 2))


def pairs_of_trees(webs=SMALL):
    """Some pairs of TREES of each WEB, among them such of one tree twice."""
    found = []
    for web in webs:
        every = walks.trees(web)
        first = every[:: 1 + len(every) // 9]
        second = every[:: 1 + len(every) // 11]
        found.extend((web, tree, other) for tree in first for other in second + first[:1])
    return found


class Crossings(unittest.TestCase):
    def test_every_ring(self):
        for web, tree, other in pairs_of_trees():
            wanted = walks.crossings(web, tree, other)
            for ring in walks.rings(web[0], web[1]):
                self.assertIs(is_crossing(web, tree, other, ring), ring in wanted)
            self.assertIs(can_cross(web, tree, other), bool(wanted))
            there = {tie for ring in wanted for tie in walks.ring_ties(ring)[0]}
            self.assertEqual(crossed_ties(web, tree, other), tuple(sorted(there)))
            if wanted:
                self.assertIn(crossing(web, tree, other), wanted)
            else:
                self.assertIs(type(raised(crossing, web, tree, other)), CanNot)

    def test_every_tuple(self):
        for web, tree, other in pairs_of_trees([web for web in SMALL if len(web[2]) > 5][:3]):
            wanted = walks.crossings(web, tree, other)
            for size in (0, 2, 3, 4, 5, 6):
                for thing in product(*([range(web[0]), range(web[1])] * 3)[:size]):
                    self.assertIs(is_crossing(web, tree, other, thing), thing in wanted)

    def test_none_goes_twice_to_a_place(self):
        for thing in ((0, 0, 0, 1), (0, 1, 1, 1), (0, 0, 0, 1, 0, 2), (0, 1, 1, 1, 0, 0), (0, 0, 0, 0)):
            ties = walks.ring_ties(thing)
            self.assertTrue(ties[0] | ties[1] <= set(LEFT))
            self.assertIs(is_crossing(WEB, LEFT, LEFT, thing), False)
            self.assertIs(type(raised(crossing_ties, WEB, LEFT, LEFT, thing)), Unfit)
            self.assertIs(type(raised(balance, WEB, WEB[2], thing)), Unfit)

    def test_greater_webs(self):
        for web, tree, other in pairs_of_trees(walks.greater_webs()[::4]):
            wanted = walks.crossings(web, tree, other)
            self.assertIs(can_cross(web, tree, other), bool(wanted))
            there = {tie for ring in wanted for tie in walks.ring_ties(ring)[0]}
            self.assertEqual(crossed_ties(web, tree, other), tuple(sorted(there)))
            if wanted:
                self.assertIn(crossing(web, tree, other), wanted)

    def test_what_a_crossing_goes_over(self):
        for web, tree, other in pairs_of_trees():
            for ring in walks.crossings(web, tree, other)[:4]:
                there, back = walks.ring_ties(ring)
                told = (tuple(sorted(there)), tuple(sorted(back)))
                self.assertEqual(crossing_ties(web, tree, other, ring), told)
                turned = gone_back(web, tree, other, ring)
                self.assertEqual(turned[0], ring[0])
                self.assertIn(turned, walks.crossings(web, other, tree))
                self.assertEqual(crossing_ties(web, other, tree, turned), told[::-1])
                self.assertEqual(gone_back(web, other, tree, turned), ring)
                for order in walks.orders(web):
                    dearest = max(there | back, key=lambda tie: walks.price(web, order, tie))
                    slack = slack_one(web, order, tree, other, ring)
                    self.assertIs(type(slack), int)
                    self.assertEqual(slack, 0 if dearest in there else 1)
                    self.assertFalse(is_tight(web, order, (tree, other)[slack]))

    def test_guarantees(self):
        for web, tree, other in pairs_of_trees():
            rows = [walks.row(web, tree, side) == walks.row(web, other, side) for side in (0, 1)]
            if tree == other:
                self.assertIs(can_cross(web, tree, other), False)
            elif any(rows):
                self.assertIs(can_cross(web, tree, other), True)
            self.assertIs(can_cross(web, tree, other), can_cross(web, other, tree))
        for web in SMALL:
            for order in walks.orders(web)[:4]:
                tights = list(walks.tights(web, order, 0).values())
                for tree in tights:
                    for other in tights:
                        self.assertIs(can_cross(web, tree, other), False)

    def test_bent_things(self):
        self.assertIs(is_crossing(WEB, LEFT, RIGHT, (0, 0, 1, 1)), True)
        for thing in (
            None,
            0,
            "0011",
            (),
            [],
            [0, 0, 1, 1],
            (0, 0),
            (0, 0, 1),
            (0, 0, 1, 1, 0),
            (0, 0, 1, 1) * 2,
            (0, 0, 1, 1) * 10**4,
            (0, 1, 1, 0),
            (False, 0, 1, 1),
            (0, False, 1, 1),
            (0, 0, True, 1),
            (0, 0, 1, True),
            (0, 0, 1, None),
            (0, 0, 1, "1"),
            (0, 0, 1, (1,)),
            ((0, 0), (1, 1)),
            ((0, 0, 1, 1),),
            (0, 0, 1, 3),
            (0, 0, 1, -2),
            (0, 0, 10**40, 1),
            (0, 0, 0, 1),
            (0, 0, 1, 0),
        ):
            self.assertIs(is_crossing(WEB, LEFT, RIGHT, thing), False)
            if thing != [0, 0, 1, 1]:
                for call, rest in ((crossing_ties, ()), (gone_back, ()), (slack_one, (WEB[2],))):
                    self.assertIs(type(raised(call, WEB, *rest, LEFT, RIGHT, thing)), Unfit)
        # A TREE has no CROSSING with itself, so none can be handed in.
        self.assertIs(is_crossing(WEB, LEFT, LEFT, (0, 0, 1, 1)), False)
        self.assertIs(type(raised(gone_back, WEB, LEFT, LEFT, (0, 0, 1, 1))), Unfit)

    def test_lists_for_a_ring(self):
        self.assertEqual(gone_back(listed(WEB), listed(LEFT), listed(RIGHT), [1, 1, 0, 0]), (1, 0, 0, 1))

    def test_at_the_bounds(self):
        for web, row in (
            (FULL, (1, 1, 1, 1) + (0,) * 8),
            (BROAD, (1,) * 11 + (0,)),
            (BEYOND, (1,) * 12 + (0,)),
        ):
            orders = walks.orders(web)[2:4]
            tree, other = [tight_tree(web, order, 0, row) for order in orders]
            self.assertNotEqual(tree, other)
            ring = crossing(web, tree, other)
            self.assertIs(is_crossing(web, tree, other, ring), True)
            there, back = crossing_ties(web, tree, other, ring)
            self.assertTrue(set(there) <= set(crossed_ties(web, tree, other)) and set(back) <= set(other))
            self.assertEqual(slack_one(web, orders[0], tree, other, ring), 1)
            self.assertEqual(slack_one(web, orders[1], tree, other, ring), 0)
            self.assertIs(is_crossing(web, other, tree, gone_back(web, tree, other, ring)), True)
            self.assertIs(can_cross(web, tree, tree), False)

    def test_the_longest_ring(self):
        for many in (12, 13):
            web = (many, many, tuple(sorted((hand, (hand + more) % many) for hand in range(many) for more in (0, 1))))
            ring = tuple(own for hand in range(many)[::-1] for own in (hand, hand))
            tree = tuple(tie for tie in web[2] if tie != (many - 1, 0))
            other = tuple(tie for tie in web[2] if tie != (0, 0))
            self.assertIs(is_crossing(web, tree, other, ring), True)
            self.assertIn(crossing(web, tree, other), [ring[2 * at:] + ring[:2 * at] for at in range(many)])
            self.assertEqual(crossed_ties(web, tree, other), tuple((hand, hand) for hand in range(many)))


if __name__ == "__main__":
    unittest.main()
