"""[23]: what a TIE less loses, against a plain walk over small WEBS."""

import unittest
from unittest import mock

from eachhandtied import few
from eachhandtied.counts import ring_web, whole_web
from eachhandtied.errors import CanNot, NoTie, TooMany, Unfit
from eachhandtied.lost import is_lost, is_tree_with, least_share, lost_rows, must_ties, tree_with, without
from eachhandtied.numbered import last_row
from eachhandtied.partners import partner
from eachhandtied.rows import all_rows
from eachhandtied.shares import share
from eachhandtied.tight import tight_tree
from eachhandtied.trees import some_tree
from tests import walks
from tests.walks import listed
from tests.wrong import BEYOND, BROAD, FULL, HOUSE, TREE, raised

LOOP = ring_web(3)
PLAIN = (3, 2, ((0, 0), (0, 1), (1, 0), (1, 1), (2, 1)))


def trees_by_row(web, side):
    """For each ROW of this SIDE the list of all TREES with it."""
    found = {}
    for tree in walks.trees(web):
        found.setdefault(walks.row(web, tree, side), []).append(tree)
    return found


def less(web, tie):
    return web[0], web[1], tuple(own for own in web[2] if own != tie)


SMALL = walks.some_webs()
ALL = SMALL + walks.greater_webs()[::4]


class Lost(unittest.TestCase):
    def test_every_tie(self):
        for web in ALL:
            for tie in web[2]:
                left = less(web, tie)
                hangs = walks.hang(*left)
                if hangs:
                    self.assertEqual(without(web, tie), left)
                else:
                    error = raised(without, web, tie)
                    self.assertEqual((type(error), vars(error)), (CanNot, {}))
                many = []
                for side in (0, 1):
                    kept = walks.rows(left, side) if hangs else []
                    wanted = [row for row in walks.rows(web, side) if row not in kept]
                    self.assertEqual(lost_rows(web, side, tie), wanted)
                    many.append(len(wanted))
                    for row in walks.rows(web, side):
                        self.assertIs(is_lost(web, side, row, tie), row in wanted)
                        # The guarantee: with one less than the TIES at an end.
                        if row[tie[side]] == len(walks.neighbours(web, side, (tie[side],))) - 1:
                            self.assertIn(row, wanted)
                self.assertEqual(many[0], many[1])
                self.assertGreater(many[0], 0)

    def test_every_row_and_tie(self):
        for web in ALL:
            for side in (0, 1):
                for row, having in trees_by_row(web, side).items():
                    self.assertEqual(must_ties(web, side, row), tuple(tie for tie in web[2] if all(tie in own for own in having)))
                    for tie in web[2]:
                        told = tree_with(web, side, row, tie)
                        self.assertIn(tie, told)
                        self.assertIn(told, having)
                        shares = [walks.share(own, tie, side) if tie in own else 0 for own in having]
                        self.assertEqual(least_share(web, side, row, tie), min(shares))
                        self.assertIs(is_lost(web, side, row, tie), min(shares) > 0)

    def test_every_tree(self):
        for web in SMALL[::2]:
            for side in (0, 1):
                for row in walks.rows(web, side):
                    for tie in web[2]:
                        for tree in walks.trees(web):
                            wanted = tie in tree and walks.row(web, tree, side) == row
                            self.assertIs(is_tree_with(web, side, row, tie, tree), wanted)

    def test_orders_that_begin_with_the_tie(self):
        for web in SMALL[::2] + walks.greater_webs()[::6]:
            for tie in web[2]:
                order = (tie,) + less(web, tie)[2][::-1]
                for side in (0, 1):
                    wanted = []
                    for row in walks.rows(web, side):
                        tree = tight_tree(web, order, side, row)
                        told = share(web, tree, tie, side) if tie in tree else 0
                        self.assertEqual(least_share(web, side, row, tie), told)
                        wanted.extend([row] if tie in tree else [])
                    self.assertEqual(lost_rows(web, side, tie), wanted)
                    partners = sorted(partner(web, order, side, row) for row in wanted)
                    self.assertEqual(lost_rows(web, 1 - side, tie), partners)

    def test_lists(self):
        self.assertEqual(without(listed(PLAIN), [0, 0]), less(PLAIN, (0, 0)))
        self.assertEqual(lost_rows(listed(PLAIN), 0, [0, 0]), [(1, 0, 0)])
        self.assertEqual(least_share(PLAIN, 0, [1, 0, 0], [0, 0]), 2)
        told = lost_rows(PLAIN, 0, (2, 1))
        told.append(None)
        self.assertEqual(lost_rows(PLAIN, 0, (2, 1)), all_rows(PLAIN, 0))

    def test_bent_things(self):
        tree = ((0, 0), (1, 1), (1, 2), (2, 0), (2, 2))
        self.assertIs(is_tree_with(LOOP, 0, (0, 1, 1), (0, 0), tree), True)
        self.assertIs(is_tree_with(LOOP, 0, (0, 1, 1), (0, 1), tree), False)
        for thing in (
            None,
            5,
            "tree",
            (),
            list(tree),
            listed(tree),
            tree[::-1],
            tree[:4],
            tree + ((0, 1),),
            ((0, 1),) + tree[1:],
            ((0, False),) + tree[1:],
            ((0, None),) + tree[1:],
            ((0, 0, 0),) + tree[1:],
            (tree,),
            tree * 10**4,
            ((0, 0), (0, 1), (1, 1), (1, 2), (2, 2)),
        ):
            self.assertIs(is_tree_with(LOOP, 0, (0, 1, 1), (0, 0), thing), False)


class Refusals(unittest.TestCase):
    def test_ties(self):
        row = (1, 0, 1)
        calls = [
            (without, (HOUSE,), ()),
            (lost_rows, (HOUSE, 0), ()),
            (is_lost, (HOUSE, 0, row), ()),
            (tree_with, (HOUSE, 0, row), ()),
            (is_tree_with, (HOUSE, 0, row), (TREE,)),
            (least_share, (HOUSE, 0, row), ()),
        ]
        for call, ahead, behind in calls:
            for tie in ((0, 2), (2, 0), (3, 0), (0, 3), (-1, 0), (10**6, 0)):
                error = raised(call, *ahead, list(tie), *behind)
                self.assertEqual((type(error), vars(error)), (NoTie, {"tie": tie}))
            for tie in (None, 0, (0,), (0, 0, 0), (True, 0), (0, None), "00", ((0, 0),)):
                self.assertIs(type(raised(call, *ahead, tie, *behind)), Unfit)
            self.assertIs(type(raised(call, HOUSE[:2], *ahead[1:], (0, 2), *behind)), Unfit)
            if len(ahead) > 1:
                self.assertIs(type(raised(call, HOUSE, 2, *ahead[2:], (0, 2), *behind)), Unfit)
            if len(ahead) > 2:
                for wrong in ((2, 0, 0), (1, 0), None, (1, 0, True)):
                    self.assertIs(type(raised(call, HOUSE, 0, wrong, (0, 2), *behind)), Unfit)
        for wrong in ((2, 0, 0), (1, 0), None):
            self.assertIs(type(raised(must_ties, HOUSE, 0, wrong)), Unfit)
        # A TIE that is none stands ahead of the WEB falling apart.
        self.assertIs(type(raised(without, HOUSE, (2, 0))), NoTie)
        self.assertIs(type(raised(without, HOUSE, (2, 1))), CanNot)

    def test_too_many(self):
        web = whole_web(6, 10)
        for side in (0, 1):
            error = raised(lost_rows, web, side, (0, 0))
            self.assertEqual((type(error), vars(error)), (TooMany, {}))
            self.assertIs(type(raised(lost_rows, web, side, (0, 10))), NoTie)
            self.assertIs(type(raised(lost_rows, web, side, (0, None))), Unfit)
        # HOUSE has two ROWS of each SIDE.
        with mock.patch.object(few, "MOST_TOLD", 2):
            self.assertEqual(lost_rows(HOUSE, 0, (2, 2)), [(0, 1, 1), (1, 0, 1)])
        with mock.patch.object(few, "MOST_TOLD", 1):
            for tie in HOUSE[2]:
                self.assertIs(type(raised(lost_rows, HOUSE, 0, tie)), TooMany)


class Bounds(unittest.TestCase):
    def test_the_greatest_and_one_beyond(self):
        for web in (FULL, BROAD, BEYOND):
            for side in (0, 1):
                for row in (last_row(web, side), walks.row(web, some_tree(web), side)):
                    self.check(web, side, row)
        for side in (0, 1):
            rows = all_rows(FULL, side)
            told = lost_rows(FULL, side, (3, 2))
            self.assertEqual(told, [row for row in rows if is_lost(FULL, side, row, (3, 2))])
            self.assertTrue(told)

    def check(self, web, side, row):
        """Hold what is told of row against TIGHT TREES by ORDERS."""
        must = must_ties(web, side, row)
        for tie in web[2][::7]:
            tree = tree_with(web, side, row, tie)
            self.assertIs(is_tree_with(web, side, row, tie, tree), True)
            self.assertIs(is_lost(web, side, row, tie), tie in must)
            order = (tie,) + less(web, tie)[2]
            tight = tight_tree(web, order, side, row)
            told = walks.share(tight, tie, side) if tie in tight else 0
            self.assertEqual(least_share(web, side, row, tie), told)
            self.assertEqual(without(web, tie), less(web, tie))


if __name__ == "__main__":
    unittest.main()
