"""[19]: how many ROWS there are, against a plain walk over small WEBS."""

import unittest
from itertools import product
from math import comb
from unittest import mock

from eachhandtied import few
from eachhandtied.changed import glued
from eachhandtied.counts import counts_at, least_at, many_above, many_below, many_rows, many_with, most_at, ring_rows
from eachhandtied.counts import ring_web, whole_rows, whole_trees, whole_web
from eachhandtied.errors import NoPlace, TooMany, Unfit
from eachhandtied.rows import all_rows
from eachhandtied.trees import many_trees
from eachhandtied.webs import is_web
from tests import walks
from tests.wrong import BEYOND, BROAD, FULL, HOUSE, raised

SMALL = walks.some_webs()
ALL = SMALL + walks.greater_webs()[::2]


def without(web, place):
    """web without a PLACE, those behind it numbered one less."""
    side, number = place
    ties = []
    for tie in web[2]:
        if tie[side] != number:
            told = list(tie)
            told[side] -= tie[side] > number
            ties.append(tuple(told))
    sizes = [web[0], web[1]]
    sizes[side] -= 1
    return sizes[0], sizes[1], tuple(sorted(ties))


class Rows(unittest.TestCase):
    def test_at_every_place(self):
        for web in ALL:
            for side in (0, 1):
                rows = walks.rows(web, side)
                self.assertEqual(many_rows(web, side), len(rows))
                for number in range(web[side]):
                    place = (side, number)
                    having = [row[number] for row in rows]
                    self.assertEqual(most_at(web, place), max(having))
                    self.assertEqual(least_at(web, place), min(having))
                    counts = counts_at(web, place)
                    self.assertEqual(counts, tuple(having.count(own) for own in range(max(having) + 1)))
                    self.assertEqual(sum(counts), len(rows))
                    self.assertTrue(all(counts[min(having) :]))
                    for own in range(-1, max(having) + 3):
                        self.assertEqual(many_with(web, place, own), having.count(own))

    def test_many_with_other_numbers(self):
        for number in (-1, -(10**6), 7, 10**6, 10**30):
            self.assertEqual(many_with(HOUSE, (0, 0), number), 0)

    def test_every_limit(self):
        for web in SMALL[::2]:
            for side in (0, 1):
                rows = walks.rows(web, side)
                for limits in product(range(4), repeat=web[side]):
                    below = [row for row in rows if all(own <= most for own, most in zip(row, limits))]
                    above = [row for row in rows if all(own >= least for own, least in zip(row, limits))]
                    self.assertEqual(many_below(web, side, limits), len(below))
                    self.assertEqual(many_above(web, side, list(limits)), len(above))
                far = (10**6,) * web[side]
                self.assertEqual((many_below(web, side, far), many_above(web, side, far)), (len(rows), 0))

    def test_nought_at_a_place(self):
        for web in ALL:
            for side in (0, 1):
                if web[side] > 1:
                    for number in range(web[side]):
                        left = without(web, (side, number))
                        having = many_with(web, (side, number), 0)
                        self.assertEqual(having, many_rows(left, side) if walks.hang(*left) else 0)

    def test_trees_and_glued_webs_and_both_sides(self):
        for web in ALL:
            self.assertEqual(many_rows(web, 0), many_rows(web, 1))
            if len(web[2]) == web[0] + web[1] - 1:
                self.assertEqual(many_rows(web, 0), 1)
        for web, other in zip(SMALL, SMALL[::-1]):
            for side in (0, 1):
                both = glued(web, (side, web[side] - 1), other, (side, 0))
                self.assertEqual(many_rows(both, 1), many_rows(web, 0) * many_rows(other, 1))


class Made(unittest.TestCase):
    def test_whole(self):
        for many in range(1, 13):
            for number in range(1, 13):
                rows, trees = whole_rows(many, number), whole_trees(many, number)
                self.assertEqual(rows, comb(many + number - 2, many - 1))
                self.assertEqual(trees, many ** (number - 1) * number ** (many - 1))
                if many * number > 60:
                    self.assertIs(type(raised(whole_web, many, number)), Unfit)
                    continue
                web = whole_web(many, number)
                ties = tuple((hand, task) for hand in range(many) for task in range(number))
                self.assertEqual(web, (many, number, ties))
                self.assertIs(is_web(web), True)
                self.assertEqual(many_trees(web), trees)
                if rows <= 2000:
                    self.assertEqual([many_rows(web, 0), many_rows(web, 1)], [rows, rows])
                else:
                    self.assertIs(type(raised(many_rows, web, 0)), TooMany)

    def test_ring(self):
        for many in range(2, 13):
            web = ring_web(many)
            ties = {(k, k) for k in range(many)} | {(k, (k + 1) % many) for k in range(many)}
            self.assertEqual(web, (many, many, tuple(sorted(ties))))
            self.assertIs(is_web(web), True)
            self.assertEqual([ring_rows(many), many_rows(web, 0), many_rows(web, 1)], [many] * 3)
            self.assertEqual(len(web[2]), 2 * many)

    def test_sizes(self):
        for wrong in (0, -1, 1001, 10**6, True, None, "2", (2,), [2]):
            for call in (whole_web, whole_rows, whole_trees):
                self.assertIs(type(raised(call, wrong, 2)), Unfit)
                self.assertIs(type(raised(call, 2, wrong)), Unfit)
            for call in (ring_web, ring_rows):
                self.assertIs(type(raised(call, wrong)), Unfit)
        for call in (ring_web, ring_rows):
            self.assertIs(type(raised(call, 1)), Unfit)
            self.assertIsNone(raised(call, 2))
        for many, number in ((13, 1), (1, 13), (13, 13), (7, 9), (6, 11), (5, 13)):
            self.assertIs(type(raised(whole_web, many, number)), Unfit)
        for many, number in ((12, 1), (1, 12), (12, 5), (5, 12), (6, 10)):
            self.assertEqual(whole_web(many, number)[:2], (many, number))
        self.assertIs(type(raised(ring_web, 13)), Unfit)
        self.assertEqual((ring_rows(13), ring_rows(1000)), (13, 1000))
        self.assertEqual(whole_rows(1000, 1000), comb(1998, 999))
        self.assertEqual(whole_trees(1000, 999), 1000**998 * 999**999)
        self.assertEqual((whole_rows(1000, 1), whole_rows(1, 1000), whole_trees(1, 1000), whole_trees(1000, 1)), (1,) * 4)


class Refusals(unittest.TestCase):
    def test_places(self):
        for call, rest in ((most_at, ()), (least_at, ()), (counts_at, ()), (many_with, (1,))):
            for place in ((0, 3), (1, 3), (2, 0), (-1, 0), (0, -1), (0, 10**6)):
                error = raised(call, HOUSE, list(place), *rest)
                self.assertEqual((type(error), vars(error)), (NoPlace, {"place": place}))
            for place in (None, 0, (0,), (0, 0, 0), (True, 0), (0, None), "00"):
                self.assertIs(type(raised(call, HOUSE, place, *rest)), Unfit)
            self.assertIs(type(raised(call, HOUSE[:2], (0, 3), *rest)), Unfit)
        for number in (None, True, "1", (1,)):
            self.assertIs(type(raised(many_with, HOUSE, (0, 3), number)), Unfit)

    def test_limits(self):
        for call in (many_below, many_above):
            for limits in (None, 0, (), (0, 0), (0, 0, 0, 0), (0, 0, -1), (0, True, 0), (0, None, 0), ((0, 0, 0),)):
                self.assertIs(type(raised(call, HOUSE, 0, limits)), Unfit)
                self.assertIs(type(raised(call, whole_web(6, 10), 0, limits)), Unfit)
            self.assertIs(type(raised(call, HOUSE, True, (0, 0, 0))), Unfit)

    def test_too_many(self):
        web = whole_web(6, 10)
        for side in (0, 1):
            limits, place = (0,) * web[side], (side, 0)
            for call, rest in (
                (many_rows, (side,)),
                (many_with, (place, 0)),
                (counts_at, (place,)),
                (many_below, (side, limits)),
                (many_above, (side, limits)),
            ):
                error = raised(call, web, *rest)
                self.assertEqual((type(error), vars(error)), (TooMany, {}))
        # These two count no ROWS.
        self.assertEqual((most_at(web, (0, 0)), least_at(web, (0, 0))), (9, 0))
        error = raised(counts_at, web, (0, 6))
        self.assertEqual((type(error), vars(error)), (NoPlace, {"place": (0, 6)}))
        self.assertIs(type(raised(many_with, web, (0, 6), 0)), NoPlace)
        self.assertIs(type(raised(many_with, web, (0, 0), None)), Unfit)
        self.assertIs(type(raised(many_rows, web, 2)), Unfit)

    def test_just_so_many(self):
        # HOUSE has two ROWS of each SIDE.
        calls = [
            (many_rows, (0,)),
            (many_with, ((1, 0), 0)),
            (counts_at, ((1, 2),)),
            (many_below, (1, (0, 0, 0))),
            (many_above, (0, (0, 0, 0))),
        ]
        for call, rest in calls:
            with mock.patch.object(few, "MOST_TOLD", 2):
                self.assertIsNone(raised(call, HOUSE, *rest))
            with mock.patch.object(few, "MOST_TOLD", 1):
                self.assertIs(type(raised(call, HOUSE, *rest)), TooMany)

    def test_two_thousand_rows(self):
        ten = whole_web(2, 10)
        web = glued(glued(glued(ten, (0, 0), ten, (0, 0)), (0, 0), ten, (0, 1)), (1, 0), whole_web(2, 2), (1, 0))
        for side in (0, 1):
            self.assertEqual(many_rows(web, side), 2000)
            limits = (10**6,) * web[side]
            self.assertEqual(many_below(web, side, limits), 2000)
            for number in (0, web[side] - 1):
                counts = counts_at(web, (side, number))
                self.assertEqual(sum(counts), 2000)
                self.assertEqual(len(counts), most_at(web, (side, number)) + 1)
        more = glued(glued(whole_web(2, 3), (0, 0), wide(23), (0, 0)), (0, 0), wide(29), (0, 0))
        self.assertIs(type(raised(many_rows, more, 0)), TooMany)
        self.assertIs(type(raised(many_rows, more, 1)), TooMany)


def wide(number):
    """Two HANDS tied to each of number TASKS, beyond the bounds."""
    return 2, number, tuple((hand, task) for hand in (0, 1) for task in range(number))


class Bounds(unittest.TestCase):
    def test_the_greatest_and_one_beyond(self):
        for side in (0, 1):
            rows = all_rows(FULL, side)
            self.assertEqual(many_rows(FULL, side), 1365)
            self.assertEqual(counts_at(FULL, (side, 2)), tuple(
                [row[2] for row in rows].count(own) for own in range(FULL[1 - side])
            ))
            self.assertEqual(many_below(FULL, side, (1,) * FULL[side]), sum(max(row) < 2 for row in rows))
            self.assertEqual(many_above(FULL, side, (1,) + (0,) * (FULL[side] - 1)), sum(row[0] > 0 for row in rows))
        for web in (BROAD, BEYOND):
            for side in (0, 1):
                for number in range(web[side]):
                    place = (side, number)
                    self.assertEqual(most_at(web, place), len(walks.neighbours(web, side, (number,))) - 1)
                    others = tuple(own for own in range(web[side]) if own != number)
                    self.assertEqual(least_at(web, place), web[1 - side] - 1 - walks.rank(web, side, others))
                self.assertIs(type(raised(many_rows, web, side)), TooMany)


if __name__ == "__main__":
    unittest.main()
