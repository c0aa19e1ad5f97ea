"""[11]: SHARES, against a plain walk over small WEBS."""

import unittest
from fractions import Fraction
from math import gcd

from eachhandtied.shares import carried, is_shares, other_shares, row_by_shares, share, shares_by, shares_round
from eachhandtied.shares import tree_shares
from tests import walks
from tests.walks import listed
from tests.wrong import FULL, HOUSE, TREE

SMALL = walks.some_webs()


def trees_and_sides(webs):
    return [(web, tree, side) for web in webs for tree in walks.trees(web) for side in (0, 1)]


class Shares(unittest.TestCase):
    def test_every_tree(self):
        for web, tree, side in trees_and_sides(SMALL):
            told = tuple((tie, walks.share(tree, tie, side)) for tie in tree)
            self.assertEqual(tree_shares(web, tree, side), told)
            for tie, number in told:
                self.assertIs(type(share(web, tree, tie, side)), int)
                self.assertEqual(share(web, tree, tie, side), number)
                self.assertEqual(carried(web, tree, tie, side), tuple(Fraction(number, web[side]).as_integer_ratio()))
            for order in walks.orders(web):
                self.assertEqual(shares_by(web, tree, order, side), walks.shares(tree, order, side))

    def test_greater_trees(self):
        for web in walks.greater_webs():
            for tree in walks.trees(web)[::29]:
                for side in (0, 1):
                    self.assertEqual(shares_by(web, tree, web[2], side), walks.shares(tree, web[2], side))

    def test_guarantees(self):
        for web, tree, side in trees_and_sides(SMALL):
            many, row = web[side], walks.row(web, tree, side)
            for own in (0, 1):
                for number in range(web[own]):
                    wanted = many * row[number] + 1 if own == side else many
                    self.assertEqual(shares_round(web, tree, side, (own, number)), wanted)
            for tie in tree:
                here, there = walks.part(tree, tie, side), walks.part(tree, tie, 1 - side)
                self.assertEqual((len(here | there), len(here & there)), (web[0] + web[1], 0))
                over, under = carried(web, tree, tie, side)
                self.assertEqual((over * many, gcd(over, under)), (under * share(web, tree, tie, side), 1))

    def test_no_two_trees_have_the_same(self):
        for web in walks.small_webs():
            for side in (0, 1):
                told = [shares_by(web, tree, web[2], side) for tree in walks.trees(web)]
                self.assertEqual(len(set(told)), len(told))

    def test_back_from_shares(self):
        for web, tree, side in trees_and_sides(SMALL):
            told = tree_shares(web, tree, side)
            self.assertIs(is_shares(web, side, told), True)
            self.assertEqual(row_by_shares(web, side, told), walks.row(web, tree, side))
            self.assertEqual(other_shares(web, side, told), tree_shares(web, tree, 1 - side))
            for at, (tie, number) in enumerate(told):
                for wrong in (number - 1, number + 1, -number):
                    self.assertIs(is_shares(web, side, told[:at] + ((tie, wrong),) + told[at + 1:]), False)

    def test_bent_things(self):
        told = tree_shares(HOUSE, TREE, 0)
        self.assertIs(is_shares(HOUSE, 0, told), True)
        self.assertEqual([own[1] for own in told], [3, 1, 1, 1, 3])
        for thing in (
            None,
            5,
            "shares",
            (),
            [],
            list(told),
            listed(told),
            told[::-1],
            told[:4],
            told + told[:1],
            told[1:] + told[:1],
            tuple(list(own) for own in told),
            tuple((list(tie), number) for tie, number in told),
            tuple((tie, [number]) for tie, number in told),
            tuple((tie, str(number)) for tie, number in told),
            tuple((tie, number, 0) for tie, number in told),
            tuple((tie,) for tie, _ in told),
            tuple(tie for tie, _ in told),
            tuple((tie, None) for tie, _ in told),
            tuple((tie, True if number == 1 else number) for tie, number in told),
            tuple(((False, False) if tie == (0, 0) else tie, number) for tie, number in told),
            (None,) * 5,
            told * 10**4,
        ):
            self.assertIs(is_shares(HOUSE, 0, thing), False)
        self.assertIs(is_shares((1, 1, ((0, 0),)), 0, (((0, 0), True),)), False)
        self.assertIs(is_shares((1, 1, ((0, 0),)), 0, (((0, 0), 1),)), True)


class Bounds(unittest.TestCase):
    def test_the_greatest_and_one_beyond(self):
        tall = (13, 13, tuple(sorted((hand, (hand + more) % 13) for hand in range(13) for more in range(2))))
        for web, tree in (
            (FULL, tuple((hand, 0) for hand in range(11)) + tuple((11, task) for task in range(5))),
            (tall, tuple(tie for tie in tall[2] if tie != (12, 12))),
        ):
            for side in (0, 1):
                order = web[2][::-1]
                self.assertEqual(shares_by(web, tree, order, side), walks.shares(tree, order, side))
                told = tree_shares(web, tree, side)
                self.assertIs(is_shares(web, side, told), True)
                self.assertEqual(row_by_shares(web, side, told), walks.row(web, tree, side))
        tree = tuple((hand, 0) for hand in range(11)) + tuple((11, task) for task in range(5))
        self.assertEqual([share(FULL, tree, (11, task), 0) for task in range(5)], [1] + [12] * 4)
        self.assertEqual([share(FULL, tree, tie, 1) for tie in ((0, 0), (11, 0), (11, 1))], [5, 1, 1])


if __name__ == "__main__":
    unittest.main()
