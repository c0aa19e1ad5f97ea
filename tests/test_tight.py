"""[13]: TIGHT TREES and FALLS, against a plain walk over small WEBS."""

import unittest
from itertools import permutations
from unittest import mock

from eachhandtied import tight
from eachhandtied.errors import CanNot, NoTie, TooMany, Unfit
from eachhandtied.rows import all_rows
from eachhandtied.tight import all_falls, fallen, falls_down, is_fall, is_tight, is_tightest, losing, tight_tree
from tests import walks
from tests.walks import listed
from tests.wrong import BEYOND, BROAD, FULL, raised

SMALL = walks.some_webs()
LOOSE_WEB = (2, 3, ((0, 0), (0, 1), (0, 2), (1, 1), (1, 2)))
LOOSE = ((0, 0), (0, 1), (0, 2), (1, 2))


def webs_and_orders(webs=SMALL):
    return [(web, order) for web in webs for order in walks.orders(web)]


class Tight(unittest.TestCase):
    def test_one_for_each_row(self):
        for web, order in webs_and_orders(walks.small_webs()):
            for side in (0, 1):
                wanted = walks.tights(web, order, side)
                self.assertEqual(sorted(wanted), all_rows(web, side))
                for row, tree in wanted.items():
                    self.assertEqual(tight_tree(web, order, side, row), tree)

    def test_greater_webs(self):
        for web in walks.greater_webs()[::2]:
            for order in walks.orders(web)[2:4]:
                for side in (0, 1):
                    for row, tree in walks.tights(web, order, side).items():
                        self.assertEqual(tight_tree(web, order, side, row), tree)
                        self.assertIs(is_tight(web, order, tree), True)

    def test_every_order(self):
        square = (2, 2, ((0, 0), (0, 1), (1, 0), (1, 1)))
        for web in (square, LOOSE_WEB, (2, 3, ((0, 0), (0, 1), (0, 2), (1, 0), (1, 1), (1, 2)))):
            for order in permutations(web[2]):
                for side in (0, 1):
                    for row, tree in walks.tights(web, order, side).items():
                        self.assertEqual(tight_tree(web, order, side, row), tree)

    def test_every_tree(self):
        for web, order in webs_and_orders():
            wanted = [walks.tights(web, order, side) for side in (0, 1)]
            for tree in walks.trees(web):
                having = not walks.under(web, tree, order)
                self.assertIs(is_tight(web, order, tree), having)
                for side in (0, 1):
                    self.assertIs(is_tightest(web, order, side, tree), having)
                    self.assertIs(having, wanted[side][walks.row(web, tree, side)] == tree)

    def test_least_cost_of_its_row(self):
        for web, order in webs_and_orders()[::3]:
            for side in (0, 1):
                for row, tree in walks.tights(web, order, side).items():
                    others = [own for own in walks.trees(web) if walks.row(web, own, side) == row]
                    least = min(others, key=lambda own: walks.cost(web, own, order, side))
                    self.assertEqual(tight_tree(web, order, side, row), least)

    def test_at_the_bounds(self):
        for web, side, row in (
            (FULL, 0, (4,) + (0,) * 11),
            (FULL, 1, (3, 2, 2, 2, 2)),
            (BROAD, 0, (4, 0, 0, 0, 3, 0, 0, 0, 4, 0, 0, 0)),
            (BROAD, 1, (1,) * 11 + (0,)),
            (BEYOND, 0, (1,) * 12 + (0,)),
            (BEYOND, 1, (0,) + (1,) * 12),
        ):
            for order in walks.orders(web):
                tree = tight_tree(web, order, side, row)
                self.assertEqual(walks.row(web, tree, side), row)
                self.assertEqual(walks.under(web, tree, order), ())
                self.assertIs(is_tight(web, order, tree), True)
                self.assertIs(is_tightest(web, order, side, tree), True)


class Falls(unittest.TestCase):
    def test_every_tree(self):
        for web, order in webs_and_orders():
            for tree in walks.trees(web)[::9]:
                under = walks.under(web, tree, order)
                for tie in web[2]:
                    if tie in under:
                        self.assertEqual(losing(web, order, tree, tie), walks.way(tree, tie)[::2])
                    else:
                        self.assertIs(type(raised(losing, web, order, tree, tie)), CanNot)
                for side in (0, 1):
                    wanted = walks.falls(web, order, side, tree)
                    self.assertEqual(all_falls(web, order, side, tree), wanted)
                    self.assertEqual([put for put, _ in wanted], list(under))
                    for fall in [(put, out) for put in web[2] for out in web[2]]:
                        self.assertIs(is_fall(web, order, side, tree, fall), fall in wanted)
                        if fall in wanted:
                            self.assertEqual(fallen(web, order, side, tree, fall), walks.swapped(tree, *fall))
                        else:
                            self.assertIs(type(raised(fallen, web, order, side, tree, fall)), CanNot)

    def test_guarantees(self):
        for web, order in webs_and_orders():
            for tree in walks.trees(web)[::3]:
                for side in (0, 1):
                    for put, out in all_falls(web, order, side, tree):
                        lose = walks.way(tree, put)[::2]
                        least = [walks.share(tree, tie, side) for tie in lose]
                        self.assertEqual(least.count(min(least)), 1)
                        after = fallen(web, order, side, tree, (put, out))
                        self.assertIn(after, walks.trees(web))
                        self.assertEqual(walks.row(web, after, side), walks.row(web, tree, side))
                        self.assertLess(walks.shares(after, order, side), walks.shares(tree, order, side))
                        self.assertLess(walks.cost(web, after, order, side), walks.cost(web, tree, order, side))

    def test_all_falls_lead_to_the_tight_one(self):
        for web, order in webs_and_orders()[::7]:
            for side in (0, 1):
                wanted = walks.tights(web, order, side)
                for tree in walks.trees(web)[::4]:
                    waiting, seen = [tree], set()
                    while waiting:
                        own = waiting.pop()
                        after = [fallen(web, order, side, own, fall) for fall in all_falls(web, order, side, own)]
                        if not after:
                            self.assertEqual(own, wanted[walks.row(web, tree, side)])
                        waiting.extend(next_one for next_one in after if next_one not in seen)
                        seen.update(after)

    def test_down(self):
        for web, order in webs_and_orders():
            for side in (0, 1):
                for tree in walks.trees(web)[::2]:
                    told = falls_down(web, order, side, tree)
                    wanted = [tree]
                    while falls := walks.falls(web, order, side, wanted[-1]):
                        put, out = min(falls, key=lambda fall: order.index(fall[0]))
                        wanted.append(walks.swapped(wanted[-1], put, out))
                    self.assertEqual(told, wanted)
                    self.assertEqual(told[-1], tight_tree(web, order, side, walks.row(web, tree, side)))

    def test_down_at_the_bounds(self):
        for web in (FULL, BROAD, BEYOND):
            tree = tuple(tie for tie in FULL[2] if tie[0] == 0 or tie[1] == 0)
            if web is not FULL:
                tree = tuple((k // 2, (k + 1) // 2) for k in range(web[0] + web[1] - 1))
            for order in walks.orders(web)[::2]:
                for side in (0, 1):
                    told = falls_down(web, order, side, tree)
                    for one, own in zip(told, told[1:]):
                        falls = walks.falls(web, order, side, one)
                        put, out = min(falls, key=lambda fall: order.index(fall[0]))
                        self.assertEqual(own, walks.swapped(one, put, out))
                    self.assertEqual(told[0], tree)
                    self.assertEqual(told[-1], tight_tree(web, order, side, walks.row(web, tree, side)))

    def test_bent_things(self):
        fall = ((1, 1), (1, 2))
        self.assertIs(is_fall(LOOSE_WEB, LOOSE_WEB[2], 0, LOOSE, fall), True)
        for thing in (
            None,
            1,
            "fall",
            (),
            [],
            list(fall),
            listed(fall),
            fall[::-1],
            fall[:1],
            fall + fall[:1],
            ([1, 1], (1, 2)),
            ((1, 1), [1, 2]),
            ((True, 1), (1, 2)),
            ((1, 1), (True, 2)),
            ((1, 1, 0), (1, 2)),
            ((1, 1), (1,)),
            ((1, 1), None),
            (("1", "1"), ("1", "2")),
            ((fall,),),
            ((9, 9), (9, 9)),
            (0,) * 10**5,
        ):
            self.assertIs(is_fall(LOOSE_WEB, LOOSE_WEB[2], 0, LOOSE, thing), False)
        self.assertIs(is_fall(LOOSE_WEB, LOOSE_WEB[2], 1, LOOSE, fall), False)

    def test_just_so_many_are_told(self):
        self.assertEqual(tight.MOST_TOLD, 2000)
        web = (3, 2, ((0, 0), (0, 1), (1, 0), (1, 1), (2, 0), (2, 1)))
        tree = ((0, 0), (0, 1), (1, 1), (2, 1))
        with mock.patch.object(tight, "MOST_TOLD", 3):
            self.assertEqual(len(falls_down(web, web[2], 0, tree)), 3)
        with mock.patch.object(tight, "MOST_TOLD", 2):
            self.assertIs(type(raised(falls_down, web, web[2], 0, tree)), TooMany)
            self.assertIs(type(raised(falls_down, web, web[2], 0, tree[:3])), Unfit)

    def test_two_thousand_and_one_more(self):
        web = (22, 22, tuple((hand, task) for hand in range(22) for task in range(22)))
        order = tuple(sorted(web[2], key=lambda tie: ((17 * tie[0] + 29 * tie[1] + 7 * tie[0] * tie[1] ** 2) % 409, tie)))
        path = tuple((k // 2, (k + 1) // 2) for k in range(43))
        with mock.patch.object(tight, "MOST_TOLD", 10**4):
            every = falls_down(web, order, 0, path)
        self.assertGreater(len(every), 2000)
        self.assertIs(is_tight(web, order, every[-1]), True)
        self.assertEqual(falls_down(web, order, 0, every[-2000]), every[-2000:])
        error = raised(falls_down, web, order, 0, every[-2001])
        self.assertEqual((type(error), vars(error)), (TooMany, {}))
        self.assertIs(type(raised(falls_down, web, order, True, every[-2001])), Unfit)

    def test_refusals(self):
        order = LOOSE_WEB[2]
        for tie in ((1, 0), (2, 0), (0, 3), (-1, 0), (10**6, 10**6 + 1)):
            error = raised(losing, LOOSE_WEB, order, LOOSE, list(tie))
            self.assertEqual((type(error), vars(error)), (NoTie, {"tie": tie}))
        for tie in LOOSE:
            self.assertIs(type(raised(losing, LOOSE_WEB, order, LOOSE, tie)), CanNot)
        self.assertIs(type(raised(losing, LOOSE_WEB, order[1:], LOOSE, (1, 0))), Unfit)
        self.assertIs(type(raised(tight_tree, LOOSE_WEB, order, 1, (2, 0))), Unfit)
        for fall in (((1, 1), (1, 0)), ((9, 9), (1, 2)), (0, 0), ((1, 1),), ((1, 1), (1, 2), (1, 2)), None, ((1, True), (1, 2))):
            self.assertIs(type(raised(fallen, LOOSE_WEB, order, 0, LOOSE, fall)), Unfit)


if __name__ == "__main__":
    unittest.main()
