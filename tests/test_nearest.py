"""[18]: the nearest ROWS, against a plain walk over small WEBS."""

import unittest
from itertools import permutations, product
from unittest import mock

from eachhandtied import few
from eachhandtied.changed import glued
from eachhandtied.counts import whole_web
from eachhandtied.errors import CanNot, TooMany, Unfit
from eachhandtied.nearest import all_nearest, excess, how_far, is_mending, is_nearest, is_why_far, mending
from eachhandtied.nearest import nearest_row, why_far
from tests import walks
from tests.walks import listed
from tests.wrong import BEYOND, BROAD, FULL, HOUSE, raised

FOUR = (3, 4, ((0, 0), (0, 1), (0, 2), (1, 0), (1, 1), (2, 2), (2, 3)))


def sides_of(webs):
    """The triples of a WEB, a SIDE and the ROWS of it."""
    return [(web, side, walks.rows(web, side)) for web in webs for side in (0, 1)]


SMALL = sides_of(walks.some_webs())
ALL = SMALL + sides_of(walks.greater_webs()[::2])


def apart(call, other):
    return sum(abs(own - another) for own, another in zip(call, other)) // 2


def farness(rows, call):
    return min(apart(call, row) for row in rows)


def after(call, pair):
    return tuple(own - (at == pair[0]) + (at == pair[1]) for at, own in enumerate(call))


def mends(rows, call, pairs):
    """Whether call comes to be one of rows by pairs, never below 0."""
    for pair in pairs:
        call = after(call, pair)
        if min(call) < 0:
            return False
    return call in rows


class Nearest(unittest.TestCase):
    def test_every_call(self):
        for web, side, rows in ALL:
            calls = walks.calls(web, side)
            for call in calls:
                far = farness(rows, call)
                wanted = [row for row in rows if apart(call, row) == far]
                self.assertEqual(how_far(web, side, call), far)
                self.assertIs(far == 0, call in rows)
                self.assertEqual(all_nearest(web, side, call), wanted)
                self.assertIn(nearest_row(web, side, call), wanted)
                for thing in calls:
                    self.assertIs(is_nearest(web, side, call, thing), thing in wanted)

    def test_every_excess(self):
        for web, side, rows in SMALL + sides_of(walks.greater_webs()[::12]):
            lots = walks.lots(web[side])
            for call in walks.calls(web, side):
                far = farness(rows, call)
                told = {lot: sum(call[own] for own in lot) - walks.rank(web, side, lot) for lot in lots}
                most = [lot for lot in lots if told[lot] == far and far > 0]
                # The guarantee: call is far by the greatest excess.
                self.assertEqual(max(0, max(told.values())), far)
                for lot in lots:
                    self.assertEqual(excess(web, side, call, lot), told[lot])
                    self.assertIs(is_why_far(web, side, call, lot), lot in most)
                if far == 0:
                    self.assertIs(type(raised(why_far, web, side, call)), CanNot)
                    continue
                self.assertIn(why_far(web, side, call), most)
                every = tuple(sorted(set().union(*most)))
                self.assertIn(every, most)

    def test_mendings(self):
        for web, side, rows in ALL:
            for call in walks.calls(web, side):
                told = mending(web, side, call)
                self.assertEqual(len(told), farness(rows, call))
                self.assertTrue(mends(rows, call, told))
                self.assertIs(is_mending(web, side, call, told), True)
                self.assertIs(is_mending(web, side, call, list(told)), False)

    def test_every_tuple_of_pairs(self):
        for web, side, rows in SMALL[::5]:
            pairs = list(permutations(range(web[side]), 2))
            for call in walks.calls(web, side):
                far = farness(rows, call)
                for size in range(3):
                    for told in product(pairs, repeat=size):
                        wanted = size == far and mends(rows, call, told)
                        self.assertIs(is_mending(web, side, call, told), wanted)

    def test_one_handed_on_brings_nearer_by_one_at_the_most(self):
        for web, side, _ in SMALL[::3]:
            for call in walks.calls(web, side):
                far = how_far(web, side, call)
                for pair in permutations(range(web[side]), 2):
                    if call[pair[0]] > 0:
                        self.assertLessEqual(abs(how_far(web, side, after(call, pair)) - far), 1)

    def test_lists(self):
        self.assertEqual(how_far(FOUR, 0, [0, 3, 0]), 2)
        self.assertEqual(excess(listed(FOUR), 0, [0, 3, 0], [0, 1]), 1)
        self.assertEqual(all_nearest(FOUR, 0, [3, 0, 0]), [(2, 0, 1)])


class Things(unittest.TestCase):
    def test_bent_rows(self):
        for thing in (
            None,
            1,
            "111",
            (),
            [1, 1, 1],
            (True, 1, 1),
            (1, 1),
            (1, 1, 1, 0),
            (1, 1, None),
            ((1, 1, 1),),
            (2, 1, 0),
            (2, 0, 1),
            (0, 3, 0),
            (1, 3, -1),
            (1, 1, "1"),
            (1,) * 10**5,
        ):
            self.assertIs(is_nearest(FOUR, 0, (0, 3, 0), thing), False)
        self.assertIs(is_nearest(FOUR, 0, (0, 3, 0), (1, 1, 1)), True)
        self.assertIs(is_nearest(FOUR, 0, (1, 1, 1), (1, 1, 1)), True)
        self.assertIs(is_nearest(FOUR, 0, (1, 1, 1), (2, 0, 1)), False)

    def test_bent_lots(self):
        for thing in (None, 1, "1", (), [1], (True,), (1, 1), (1, 0), (3,), (-1,), (None,), ((1,),), (1, "2"), (0, 1)):
            self.assertIs(is_why_far(FOUR, 0, (0, 3, 0), thing), False)
        self.assertIs(is_why_far(FOUR, 0, (0, 3, 0), (1,)), True)
        # All of the SIDE have the excess 0, but a ROW is not far.
        for thing in ((0, 1, 2), (0,), (1,), (2,), None):
            self.assertIs(is_why_far(FOUR, 0, (2, 0, 1), thing), False)

    def test_bent_mendings(self):
        told = ((1, 0), (1, 2))
        for thing in (
            None,
            2,
            "1012",
            (),
            list(told),
            listed(told),
            told[:1],
            told + ((0, 1),),
            told + told,
            ([1, 0], (1, 2)),
            ((1, 0), (1, 2, 0)),
            ((1, 0), (1,)),
            ((1, 0), (1, 3)),
            ((1, 0), (1, -1)),
            ((1, 0), (2, 2)),
            ((1, 0), (True, 2)),
            ((1, False), (1, 2)),
            ((1, 0), None),
            ((1, 0), ("1", 2)),
            (1, 0),
            ((1, 0, 1, 2),),
            ((0, 2), (1, 0)),
            ((1, 2), (0, 1)),
            told * 10**4,
        ):
            self.assertIs(is_mending(FOUR, 0, (0, 3, 0), thing), False)
        self.assertIs(is_mending(FOUR, 0, (0, 3, 0), told), True)
        self.assertIs(is_mending(FOUR, 0, (0, 3, 0), told[::-1]), True)
        self.assertIs(is_mending(FOUR, 0, (2, 0, 1), ()), True)
        self.assertIs(is_mending(FOUR, 0, (2, 0, 1), []), False)
        self.assertIs(is_mending(FOUR, 0, (2, 0, 1), ((0, 1),)), False)
        self.assertIs(is_mending(FOUR, 0, (2, 0, 1), ((0, 1), (1, 0))), False)


class Refusals(unittest.TestCase):
    def test_unfit_ahead_of_all(self):
        for call, rest in ((how_far, ()), (nearest_row, ()), (all_nearest, ()), (why_far, ()), (mending, ())):
            for wrong in ((1, 1), (1, 1, 0), (1, 1, 1, 0), (4, -1, 0), (True, 1, 1), None, "111"):
                self.assertIs(type(raised(call, FOUR, 0, wrong, *rest)), Unfit)
            self.assertIs(type(raised(call, FOUR, 2, (1, 1, 1), *rest)), Unfit)
            self.assertIs(type(raised(call, FOUR[:2], 0, (1, 1, 1), *rest)), Unfit)
        self.assertIs(type(raised(excess, FOUR, 0, (1, 1, 1), ())), Unfit)
        self.assertIs(type(raised(excess, FOUR, 0, (1, 1, 1), (0, 3))), Unfit)
        self.assertIs(type(raised(all_nearest, whole_web(6, 10), 0, (9, 1, 0, 0, 0, 0))), Unfit)
        error = raised(why_far, HOUSE, 0, (1, 0, 1))
        self.assertEqual((type(error), vars(error)), (CanNot, {}))

    def test_too_many(self):
        error = raised(all_nearest, whole_web(6, 10), 0, (9, 0, 0, 0, 0, 0))
        self.assertEqual((type(error), vars(error)), (TooMany, {}))
        self.assertIs(type(raised(all_nearest, whole_web(6, 10), 1, (5,) + (0,) * 9)), TooMany)
        self.assertEqual(len(all_nearest(whole_web(7, 8), 0, (7,) + (0,) * 6)), 1)
        # HOUSE has two ROWS of each SIDE.
        with mock.patch.object(few, "MOST_TOLD", 2):
            self.assertEqual(all_nearest(HOUSE, 0, (0, 0, 2)), [(0, 1, 1), (1, 0, 1)])
        with mock.patch.object(few, "MOST_TOLD", 1):
            self.assertIs(type(raised(all_nearest, HOUSE, 0, (0, 0, 2))), TooMany)
            self.assertIs(type(raised(all_nearest, HOUSE, 0, (0, 0, 3))), Unfit)

    def test_two_thousand_rows(self):
        ten = whole_web(2, 10)
        web = glued(glued(glued(ten, (0, 0), ten, (0, 0)), (0, 0), ten, (0, 1)), (1, 0), whole_web(2, 2), (1, 0))
        call = (web[1] - 1,) + (0,) * (web[0] - 1)
        told = all_nearest(web, 0, call)
        self.assertIn(nearest_row(web, 0, call), told)
        self.assertEqual({apart(call, row) for row in told}, {how_far(web, 0, call)})


class Bounds(unittest.TestCase):
    def test_the_greatest_and_one_beyond(self):
        for web, side in ((FULL, 0), (FULL, 1), (BROAD, 0), (BROAD, 1), (BEYOND, 0), (BEYOND, 1)):
            together = web[1 - side] - 1
            for at in range(0, web[side], 3):
                call = [0] * web[side]
                call[at] = together - together // 3
                call[(at + 1) % web[side]] += together // 3
                far = how_far(web, side, call)
                row, lot = nearest_row(web, side, call), why_far(web, side, call) if far else None
                self.assertIs(is_nearest(web, side, call, row), True)
                self.assertEqual(apart(call, row), far)
                self.assertIs(is_mending(web, side, call, mending(web, side, call)), True)
                self.assertIs(is_why_far(web, side, call, lot), far > 0)
                if far:
                    self.assertEqual(excess(web, side, call, lot), far)
        self.assertEqual(how_far(BROAD, 0, (11,) + (0,) * 11), 7)
        self.assertEqual(how_far(FULL, 0, (0,) * 11 + (4,)), 0)


if __name__ == "__main__":
    unittest.main()
