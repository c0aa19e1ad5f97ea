"""[7]: CALLS and ROWS, against a plain walk over small WEBS."""

import unittest
from itertools import product
from unittest import mock

from eachhandtied import few
from eachhandtied.changed import glued
from eachhandtied.errors import TooMany
from eachhandtied.rows import all_rows, calls_together, how_many_calls, is_call, is_row, row_of, trees_with
from eachhandtied.trees import many_trees
from tests import walks
from tests.wrong import raised
from tests.walks import listed

HOUSE = (3, 3, ((0, 0), (0, 1), (1, 0), (1, 1), (2, 1), (2, 2)))


def whole(many, number):
    return many, number, tuple((hand, task) for hand in range(many) for task in range(number))


def ring(many):
    return many, many, tuple(sorted((k, own % many) for k in range(many) for own in (k, k + 1)))


class Calls(unittest.TestCase):
    def test_every_tuple(self):
        for web in walks.some_webs():
            for side in (0, 1):
                wanted = walks.calls(web, side)
                self.assertEqual(calls_together(web, side), web[1 - side] - 1)
                self.assertEqual(how_many_calls(web, side), len(wanted))
                for size in (web[side] - 1, web[side], web[side] + 1):
                    for thing in product(range(-1, 4), repeat=size):
                        self.assertIs(is_call(web, side, thing), thing in wanted)
                for call in wanted:
                    self.assertIs(is_call(web, side, listed(call)), False)

    def test_other_things(self):
        for thing in (None, 2, "101", (True, 0, 1), (None, 1, 1), ((1,), 0, 1), (10**40, 0, 2 - 10**40), ("1", 0, 1)):
            self.assertIs(is_call(HOUSE, 0, thing), False)
            self.assertIs(is_row(HOUSE, 0, thing), False)
        self.assertIs(is_call(HOUSE, 0, (0,) * 10**5), False)

    def test_at_the_bounds(self):
        self.assertEqual(how_many_calls(whole(12, 5), 0), 1365)
        broad = (12, 12, tuple(sorted((hand, (hand + more) % 12) for hand in range(12) for more in range(5))))
        self.assertEqual((calls_together(broad, 1), how_many_calls(broad, 1)), (11, 705432))


class Rows(unittest.TestCase):
    def test_against_a_walk(self):
        for web in walks.small_webs() + walks.greater_webs():
            every = walks.trees(web)
            for side in (0, 1):
                by_row = {}
                for tree in every:
                    row = walks.row(web, tree, side)
                    self.assertEqual(row_of(web, tree, side), row)
                    self.assertIs(is_call(web, side, row), True)
                    by_row.setdefault(row, []).append(tree)
                self.assertEqual(all_rows(web, side), sorted(by_row))
                for call in walks.calls(web, side):
                    self.assertIs(is_row(web, side, call), call in by_row)
                for row in by_row:
                    self.assertEqual(trees_with(web, side, row), by_row[row])
                    self.assertIs(is_row(web, side, list(row)), False)

    def test_both_ways_to_them(self):
        # With no LOTS ranked ROWS are found from ROW to ROW, as on great SIDES.
        webs = walks.some_webs() + walks.greater_webs() + [whole(7, 5), whole(12, 3), ring(12)]
        for side in (0, 1):
            told = [all_rows(web, side) for web in webs]
            with mock.patch.object(few, "MOST_RANKED", 0):
                self.assertEqual([all_rows(web, side) for web in webs], told)
        great = whole(6, 10)
        with mock.patch.object(few, "MOST_RANKED", 0):
            self.assertIsInstance(raised(all_rows, great, 0), TooMany)
            self.assertIsInstance(raised(all_rows, great, 1), TooMany)

    def test_beyond_the_bounds(self):
        web = glued(ring(12), (0, 3), ring(12), (0, 5))
        for side in (0, 1):
            told = all_rows(web, side)
            self.assertEqual((len(told), told), (144, sorted(set(told))))
            self.assertTrue(all(is_row(web, side, row) for row in told))

    def test_just_so_many_are_told(self):
        # The ring of five has five ROWS of each SIDE.
        for most_ranked in (0, 12):
            with mock.patch.object(few, "MOST_RANKED", most_ranked):
                with mock.patch.object(few, "MOST_TOLD", 5):
                    self.assertEqual(len(all_rows(ring(5), 1)), 5)
                with mock.patch.object(few, "MOST_TOLD", 4):
                    self.assertIsInstance(raised(all_rows, ring(5), 1), TooMany)

    def test_guarantees(self):
        for web in walks.some_webs() + walks.greater_webs():
            told = [all_rows(web, side) for side in (0, 1)]
            self.assertEqual(len(told[0]), len(told[1]))
            self.assertLessEqual(len(told[0]), many_trees(web))
            for side in (0, 1):
                self.assertEqual(told[side], [own for own in walks.calls(web, side) if not walks.bars(web, side, own)])
                all_tied = len(web[2]) == web[0] * web[1]
                self.assertIs(len(told[side]) == how_many_calls(web, side), all_tied or web[side] == 1)
                if web[side] == 1:
                    self.assertEqual(told[side], [(web[1 - side] - 1,)])

    def test_at_the_bounds(self):
        broad = (12, 12, tuple(sorted((hand, (hand + more) % 12) for hand in range(12) for more in range(5))))
        self.assertTrue(is_row(broad, 0, (1,) * 11 + (0,)))
        self.assertTrue(is_row(broad, 0, (4, 0, 0, 0, 3, 0, 0, 0, 4, 0, 0, 0)))
        self.assertFalse(is_row(broad, 0, (4, 1, 0, 0, 2, 0, 0, 0, 4, 0, 0, 0)[::-1][:11] + (5,)))
        self.assertFalse(is_row(broad, 0, (4, 4, 3) + (0,) * 9))
        self.assertIsInstance(raised(all_rows, broad, 0), TooMany)
        self.assertEqual([len(all_rows(whole(12, 5), side)) for side in (0, 1)], [1365, 1365])
        self.assertEqual(len(all_rows(whole(7, 7), 1)), 924)

    def test_two_thousand_are_told_and_no_more(self):
        ten = whole(2, 10)
        web = glued(glued(glued(ten, (0, 0), ten, (0, 0)), (0, 0), ten, (0, 1)), (1, 0), whole(2, 2), (1, 0))
        for side in (0, 1):
            every = all_rows(web, side)
            self.assertEqual((len(every), every), (2000, sorted(set(every))))
        for side in (0, 1):
            self.assertIsInstance(raised(all_rows, whole(6, 10), side), TooMany)

    def test_trees_are_counted_whatever_their_rows(self):
        web = whole(12, 3)
        self.assertGreater(many_trees(web), 2000)
        self.assertIsInstance(raised(trees_with, web, 1, (11, 0, 0)), TooMany)
        tree = (12, 12, tuple((k // 2, (k + 1) // 2) for k in range(23)))
        self.assertEqual(trees_with(tree, 0, (1,) * 11 + (0,)), [tree[2]])


if __name__ == "__main__":
    unittest.main()
