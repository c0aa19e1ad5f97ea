"""[10]: FILLINGS, and TREES for ROWS, against a plain walk over small WEBS."""

import unittest
from itertools import product

from eachhandtied.errors import CanNot, Unfit
from eachhandtied.filled import filling, filling_by, is_filling, is_tree_for, is_tree_within, tree_for, tree_within
from tests import walks
from tests.walks import listed
from tests.wrong import BEYOND, BROAD, FULL, HOUSE, NO_TREES, raised


def fills(web, side, call, thing):
    """Whether thing is a FILLING of call, as told in [10]."""
    many = web[side]
    for own, number in [(own, number) for own in (0, 1) for number in range(web[own])]:
        come = sum(worth for tie, worth in zip(web[2], thing) if tie[own] == number)
        if come != (many * call[number] + 1 if own == side else many):
            return False
    return len(thing) == len(web[2]) and min(thing) >= 0


def tiny_webs():
    return [web for web in walks.small_webs() if len(web[2]) < 6]


def fillings(web, side, call):
    """All FILLINGS of call."""
    every = product(range(web[side] + 1), repeat=len(web[2]))
    return [own for own in every if fills(web, side, call, own)]


class Fillings(unittest.TestCase):
    def test_every_tuple(self):
        for web in [web for at, web in enumerate(tiny_webs()) if len(web[2]) < 5 or at % 8 == 0]:
            for side in (0, 1):
                for call in walks.calls(web, side):
                    wanted = set(fillings(web, side, call))
                    for thing in product(range(-1, web[side] + 2), repeat=len(web[2])):
                        if thing in wanted or sum(thing) == web[0] * web[1]:
                            self.assertIs(is_filling(web, side, call, thing), thing in wanted)
                    self.assertIs(bool(wanted), call in walks.rows(web, side))

    def test_one_for_each_row_and_for_no_other_call(self):
        for web in walks.small_webs() + walks.greater_webs():
            for side in (0, 1):
                rows = walks.rows(web, side)
                for call in walks.calls(web, side):
                    if call in rows:
                        self.assertTrue(fills(web, side, call, filling(web, side, call)))
                        self.assertIs(is_filling(web, side, call, filling(web, side, call)), True)
                        tree = tree_for(web, side, call)
                        self.assertTrue(tree in walks.trees(web) and walks.row(web, tree, side) == call)
                    else:
                        self.assertTrue(walks.bars(web, side, call))
                        self.assertIs(type(raised(filling, web, side, call)), CanNot)
                        self.assertIs(type(raised(tree_for, web, side, call)), CanNot)

    def test_that_of_each_tree(self):
        for web in walks.some_webs() + walks.greater_webs():
            for side in (0, 1):
                for tree in walks.trees(web)[::3]:
                    told = filling_by(web, side, tree)
                    self.assertEqual(told, walks.shares(tree, web[2], side))
                    self.assertTrue(fills(web, side, walks.row(web, tree, side), told))
                    self.assertLessEqual({own for own in told if own}, set(range(1, web[side] + 1)))

    def test_trees_alone_have_one_filling_of_their_own(self):
        for web in tiny_webs():
            for side in (0, 1):
                for call in walks.rows(web, side):
                    for told in fillings(web, side, call):
                        above = tuple(tie for tie, number in zip(web[2], told) if number)
                        self.assertTrue(walks.hang(web[0], web[1], above))
                        if len(above) == web[0] + web[1] - 1:
                            self.assertEqual(filling_by(web, side, above), told)

    def test_bent_things(self):
        call, told = (1, 0, 1), filling(HOUSE, 0, (1, 0, 1))
        self.assertIs(is_filling(HOUSE, 0, call, told), True)
        for thing in (None, 3, "311111", (), [], list(told), told[:5], told + (0,), (told,), tuple([own] for own in told)):
            self.assertIs(is_filling(HOUSE, 0, call, thing), False)
        trues = tuple(True if own == 1 else own for own in told)
        falses = tuple(False if own == 0 else own for own in told)
        for thing in (trues, falses, (None,) + told[1:], told[:5] + ("1",), told[:5] + ((1,),), (0,) * 10**5):
            self.assertIs(is_filling(HOUSE, 0, call, thing), False)
        self.assertTrue(True in trues and False in falses)
        self.assertIs(is_filling(HOUSE, 0, call, tuple(10**50 + own for own in told)), False)


class Trees(unittest.TestCase):
    def test_every_tree(self):
        for web in walks.some_webs():
            for side in (0, 1):
                for call in walks.calls(web, side):
                    for tree in walks.trees(web):
                        wanted = walks.row(web, tree, side) == call
                        self.assertIs(is_tree_for(web, side, call, tree), wanted)
                    self.assertIs(is_tree_for(web, side, call, list(walks.trees(web)[0])), False)

    def test_within_each_filling(self):
        for web in tiny_webs() + [HOUSE]:
            for side in (0, 1):
                for call in walks.rows(web, side):
                    for told in fillings(web, side, call):
                        above = {tie for tie, number in zip(web[2], told) if number}
                        having = [tree for tree in walks.trees(web) if walks.row(web, tree, side) == call]
                        wanted = [tree for tree in having if set(tree) <= above]
                        self.assertIn(tree_within(web, side, call, told), wanted)
                        for tree in walks.trees(web):
                            self.assertIs(is_tree_within(web, side, call, told, tree), tree in wanted)

    def test_within_fillings_with_many_rings(self):
        web = walks.greater_webs()[-1]
        for side in (0, 1):
            for call in walks.rows(web, side):
                having = [tree for tree in walks.trees(web) if walks.row(web, tree, side) == call]
                for first, second in zip(having, having[1:]):
                    # Half of two FILLINGS is one where it is even.
                    both = zip(filling_by(web, side, first), filling_by(web, side, second))
                    told = tuple((one + other) // 2 for one, other in both)
                    if fills(web, side, call, told):
                        tree = tree_within(web, side, call, told)
                        self.assertIn(tree, having)
                        self.assertTrue(all(told[web[2].index(tie)] for tie in tree))
                        self.assertIs(is_tree_within(web, side, call, told, tree), True)

    def test_bent_things(self):
        told = filling(HOUSE, 0, (1, 0, 1))
        tree = tree_within(HOUSE, 0, (1, 0, 1), told)
        self.assertIs(is_tree_within(HOUSE, 0, (1, 0, 1), told, tree), True)
        for thing in NO_TREES + [listed(tree), list(tree), tuple(list(tie) for tie in tree), (tree,), tree * 10**4]:
            self.assertIs(is_tree_for(HOUSE, 0, (1, 0, 1), thing), False)
            self.assertIs(is_tree_within(HOUSE, 0, (1, 0, 1), told, thing), False)

    def test_what_is_asked_ahead_of_a_thing(self):
        for thing in (None, (), 7, ("x",)):
            self.assertIs(type(raised(is_filling, HOUSE, 0, (1, 1), thing)), Unfit)
            self.assertIs(type(raised(is_tree_for, HOUSE, 0, (2, 1, 0), thing)), Unfit)
            self.assertIs(type(raised(is_tree_within, HOUSE, 0, (1, 0, 1), (1,) * 6, thing)), Unfit)
            # What is no ROW has no FILLING, so none can be handed in.
            self.assertIs(type(raised(is_tree_within, HOUSE, 0, (2, 0, 0), (1,) * 6, thing)), Unfit)
            self.assertIs(is_filling(HOUSE, 0, (2, 0, 0), thing), False)
            self.assertIs(is_tree_for(HOUSE, 0, (2, 0, 0), thing), False)


class Bounds(unittest.TestCase):
    def test_the_greatest_and_one_beyond(self):
        for web, side, call in (
            (FULL, 0, (4,) + (0,) * 11),
            (FULL, 1, (0, 11, 0, 0, 0)),
            (BROAD, 0, (4, 0, 0, 0, 3, 0, 0, 0, 4, 0, 0, 0)),
            (BROAD, 1, (1,) * 11 + (0,)),
            (BEYOND, 0, (4, 0, 0, 0, 4, 0, 0, 0, 4, 0, 0, 0, 0)),
            (BEYOND, 1, (0,) + (1,) * 12),
        ):
            told = filling(web, side, call)
            self.assertTrue(fills(web, side, call, told))
            self.assertIs(is_filling(web, side, call, told), True)
            tree = tree_for(web, side, call)
            self.assertEqual(walks.row(web, tree, side), call)
            self.assertIs(is_tree_for(web, side, call, tree), True)
            self.assertEqual(tree_within(web, side, call, filling_by(web, side, tree)), tree)
        for call in ((4, 4, 3) + (0,) * 9, (5, 6) + (0,) * 10):
            self.assertIs(type(raised(filling, BROAD, 0, call)), CanNot)
            self.assertIs(type(raised(tree_for, BROAD, 0, call)), CanNot)


if __name__ == "__main__":
    unittest.main()
