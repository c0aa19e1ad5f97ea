"""[14]: PARTNERS, against a plain walk over small WEBS."""

import unittest
from itertools import permutations
from unittest import mock

from eachhandtied import few
from eachhandtied.changed import glued
from eachhandtied.errors import NoTie, TooMany, Unfit
from eachhandtied.partners import alike_trees, all_tight, are_partners, is_matched, led_unlike, order_leads_alike
from eachhandtied.partners import partner, partners, tie_tight
from eachhandtied.rows import all_rows
from eachhandtied.tight import is_tight, tight_tree
from tests import walks
from tests.walks import listed
from tests.wrong import BEYOND, BROAD, FULL, HOUSE, raised

SMALL = walks.some_webs()


def whole(many, number):
    return many, number, tuple((hand, task) for hand in range(many) for task in range(number))


def webs_and_orders(webs=SMALL):
    return [(web, order) for web in webs for order in walks.orders(web)]


def matched(web, order):
    """The PARTNERS by their definition."""
    return {row: walks.row(web, tree, 1) for row, tree in walks.tights(web, order, 0).items()}


class Partners(unittest.TestCase):
    def test_every_row(self):
        for web, order in webs_and_orders(walks.small_webs()):
            wanted = matched(web, order)
            back = {walks.row(web, tree, 0): row for row, tree in walks.tights(web, order, 1).items()}
            self.assertEqual(partners(web, order), sorted(wanted.items()))
            for row, goal in wanted.items():
                self.assertEqual(partner(web, order, 0, row), goal)
                self.assertEqual(partner(web, order, 1, goal), row)
                self.assertEqual(back[row], goal)
                for other in walks.rows(web, 1):
                    self.assertIs(are_partners(web, order, 0, row, other), goal == other)
                    self.assertIs(are_partners(web, order, 1, other, row), goal == other)

    def test_every_order(self):
        for web in (whole(2, 2), whole(2, 3), (2, 3, ((0, 0), (0, 1), (0, 2), (1, 1), (1, 2)))):
            for order in permutations(web[2]):
                self.assertEqual(partners(web, order), sorted(matched(web, order).items()))

    def test_all_tight(self):
        for web, order in webs_and_orders() + webs_and_orders(walks.greater_webs()[::2]):
            wanted = sorted(walks.tights(web, order, 0).values())
            self.assertEqual(all_tight(web, order), wanted)
            self.assertEqual(wanted, sorted(walks.tights(web, order, 1).values()))
            self.assertEqual(len(wanted), len(all_rows(web, 1)))
            for tie in web[2]:
                having = sorted(walks.row(web, tree, 0) for tree in wanted if tie in tree)
                self.assertEqual(tie_tight(web, order, tie), having)

    def test_two_orders(self):
        for web in SMALL + walks.greater_webs()[::6]:
            orders = walks.orders(web)
            for order, other in ((orders[0], orders[1]), (orders[2], orders[0]), (orders[3], orders[4])):
                ours, theirs = matched(web, order), matched(web, other)
                unlike = sorted(row for row in ours if ours[row] != theirs[row])
                self.assertEqual(led_unlike(web, order, other), unlike)
                self.assertIs(order_leads_alike(web, order, other), not unlike)
                both = [tree for tree in all_tight(web, order) if tree in all_tight(web, other)]
                self.assertEqual(alike_trees(web, order, other), both)
                self.assertEqual(led_unlike(web, order, order), [])
                self.assertIs(order_leads_alike(web, other, other), True)
                self.assertEqual(alike_trees(web, order, order), all_tight(web, order))

    def test_where_all_orders_lead_alike(self):
        tree = (3, 3, ((0, 0), (0, 1), (1, 1), (2, 1), (2, 2)))
        for web in (whole(1, 4), whole(4, 1), whole(1, 1), tree):
            for order in permutations(web[2]):
                self.assertEqual(len(partners(web, order)), 1)
                self.assertIs(order_leads_alike(web, web[2], order), True)
                self.assertEqual(all_tight(web, order), [web[2]])

    def test_is_matched(self):
        for web, order in webs_and_orders()[::3]:
            told = tuple(partners(web, order))
            self.assertIs(is_matched(web, order, told), True)
            self.assertIs(is_matched(web, order, list(told)), False)
            self.assertIs(is_matched(web, order, told[1:]), False)
            self.assertIs(is_matched(web, order, told + told[:1]), False)
            if len(told) > 1:
                self.assertIs(is_matched(web, order, told[::-1]), False)
                crossed = ((told[0][0], told[1][1]), (told[1][0], told[0][1])) + told[2:]
                self.assertIs(is_matched(web, order, crossed), False)

    def test_bent_things(self):
        order = HOUSE[2]
        told = tuple(partners(HOUSE, order))
        self.assertEqual(told, (((0, 1, 1), (0, 2, 0)), ((1, 0, 1), (1, 1, 0))))
        for thing in (
            None,
            2,
            "rows",
            (),
            [],
            listed(told),
            tuple(list(pair) for pair in told),
            tuple((list(row), goal) for row, goal in told),
            tuple((row, list(goal)) for row, goal in told),
            tuple(pair[::-1] for pair in told),
            tuple(pair + ((),) for pair in told),
            tuple(pair[:1] for pair in told),
            (((False, 1, 1), (0, 2, 0)), told[1]),
            (told[0], ((1, 0, 1), (1, True, 0))),
            (told[0], ((1, 0, 1), (1, None, 0))),
            (told[0], ((1, 0, 1), (1, "1", 0))),
            (told[0], None),
            (told,),
            told * 10**4,
        ):
            self.assertIs(is_matched(HOUSE, order, thing), False)


class Bounds(unittest.TestCase):
    def test_the_greatest_and_one_beyond(self):
        for order in walks.orders(FULL)[:3]:
            told = partners(FULL, order)
            self.assertEqual([own[0] for own in told], all_rows(FULL, 0))
            self.assertEqual(sorted(own[1] for own in told), all_rows(FULL, 1))
            for row, goal in told[::97]:
                self.assertEqual(partner(FULL, order, 0, row), goal)
                self.assertEqual(partner(FULL, order, 1, goal), row)
        for web, row in ((BROAD, (4, 0, 0, 0, 3, 0, 0, 0, 4, 0, 0, 0)), (BEYOND, (1,) * 12 + (0,))):
            for order in walks.orders(web):
                goal = partner(web, order, 0, row)
                self.assertEqual(goal, walks.row(web, tight_tree(web, order, 0, row), 1))
                self.assertEqual(partner(web, order, 1, goal), row)
                self.assertIs(are_partners(web, order, 1, goal, row), True)

    def test_two_thousand_rows_and_one_more(self):
        two, ten = whole(2, 2), whole(2, 10)
        web = glued(glued(glued(ten, (0, 0), ten, (0, 0)), (0, 0), ten, (0, 1)), (1, 0), two, (1, 0))
        self.assertEqual(few.MOST_TOLD, 2000)
        order = web[2][::-1]
        told = all_tight(web, order)
        self.assertEqual((len(told), sorted(set(told))), (2000, told))
        self.assertTrue(all(is_tight(web, order, tree) for tree in told[::200]))
        self.assertEqual([own[0] for own in partners(web, order)], all_rows(web, 0))
        self.assertEqual(led_unlike(web, order, order), [])
        more = glued(glued(whole(2, 3), (0, 0), whole(2, 23), (0, 0)), (0, 0), whole(2, 29), (0, 0))
        order = more[2]
        for call, rest in (
            (all_tight, (more, order)),
            (partners, (more, order)),
            (is_matched, (more, order, ())),
            (is_matched, (more, order, None)),
            (tie_tight, (more, order, (0, 0))),
            (led_unlike, (more, order, order)),
            (order_leads_alike, (more, order, order)),
            (alike_trees, (more, order, order)),
        ):
            self.assertIs(type(raised(call, *rest)), TooMany)

    def test_too_many_rows_are_found_without_a_tree(self):
        # Long to answer, once: 2,002 ROWS, whose TIGHT TREES were sought first.
        for web in (whole(6, 10), whole(10, 6), BROAD):
            order, tie = web[2], (0, 0)
            calls = [
                (all_tight, (order,)),
                (partners, (order,)),
                (is_matched, (order, ())),
                (tie_tight, (order, tie)),
                (led_unlike, (order, order[::-1])),
                (order_leads_alike, (order, order[::-1])),
                (alike_trees, (order, order[::-1])),
            ]
            with mock.patch.object(few, "every_tight", side_effect=AssertionError):
                for call, rest in calls:
                    self.assertIs(type(raised(call, web, *rest)), TooMany)
                self.assertIs(type(raised(all_tight, HOUSE, HOUSE[2])), AssertionError)

    def test_just_so_many_are_told(self):
        # HOUSE has two ROWS of each SIDE.
        calls = [
            (all_tight, ()),
            (partners, ()),
            (is_matched, ((),)),
            (tie_tight, ((0, 0),)),
            (led_unlike, (HOUSE[2],)),
            (order_leads_alike, (HOUSE[2],)),
            (alike_trees, (HOUSE[2],)),
        ]
        for call, rest in calls:
            with mock.patch.object(few, "MOST_TOLD", 2):
                self.assertIsNone(raised(call, HOUSE, HOUSE[2], *rest))
            with mock.patch.object(few, "MOST_TOLD", 1):
                self.assertIs(type(raised(call, HOUSE, HOUSE[2], *rest)), TooMany)
                self.assertIs(type(raised(call, HOUSE, HOUSE[2][1:], *rest)), Unfit)

    def test_too_many_stands_behind_the_other_errors(self):
        order = BROAD[2]
        self.assertIs(type(raised(all_tight, BROAD, order)), TooMany)
        self.assertIs(type(raised(tie_tight, BROAD, order, (0, 0))), TooMany)
        error = raised(tie_tight, BROAD, order, [0, 5])
        self.assertEqual((type(error), vars(error)), (NoTie, {"tie": (0, 5)}))
        self.assertIs(type(raised(tie_tight, BROAD, order, (0, True))), Unfit)
        self.assertIs(type(raised(tie_tight, BROAD, order[1:], (0, 5))), Unfit)
        self.assertIs(type(raised(led_unlike, BROAD, order, order[1:])), Unfit)
        self.assertIs(type(raised(alike_trees, BROAD, order, order[1:])), Unfit)


if __name__ == "__main__":
    unittest.main()
