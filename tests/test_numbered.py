"""[20]: ROWS by number, against a plain walk over small WEBS."""

import unittest
from itertools import product
from unittest import mock

from eachhandtied import few
from eachhandtied.changed import glued
from eachhandtied.counts import ring_web, whole_web
from eachhandtied.errors import CanNot, TooMany, Unfit
from eachhandtied.numbered import can_begin, first_row, last_row, next_row, next_span, row_ahead, row_at, row_number
from eachhandtied.numbered import rows_from
from eachhandtied.rows import all_rows, is_row
from tests import walks
from tests.wrong import BEYOND, BROAD, FULL, HOUSE, raised

SMALL = walks.some_webs()
ALL = SMALL + walks.greater_webs()


class Rows(unittest.TestCase):
    def test_one_behind_another(self):
        for web in ALL:
            for side in (0, 1):
                rows = walks.rows(web, side)
                self.assertEqual((first_row(web, side), last_row(web, side)), (rows[0], rows[-1]))
                for at, row in enumerate(rows):
                    self.assertEqual(row_at(web, side, at), row)
                    self.assertEqual(row_number(web, side, row), at)
                    if at > 0:
                        self.assertEqual(row_ahead(web, side, row), rows[at - 1])
                        self.assertEqual(next_row(web, side, rows[at - 1]), row)
                    for many in (0, 1, 2, 3, 200):
                        self.assertEqual(rows_from(web, side, row, many), rows[at : at + many])
                self.assertIs(type(raised(row_ahead, web, side, rows[0])), CanNot)
                self.assertIs(type(raised(next_row, web, side, rows[-1])), CanNot)
                for number in (len(rows), len(rows) + 1, 10**18, 10**30):
                    self.assertIs(type(raised(row_at, web, side, number)), CanNot)

    def test_all_that_begin(self):
        for web in SMALL + walks.greater_webs()[::4]:
            for side in (0, 1):
                rows = walks.rows(web, side)
                for size in range(web[side] + 1):
                    for numbers in product(range(web[1 - side] + 1), repeat=size):
                        having = [row for row in rows if row[:size] == numbers]
                        self.assertIs(can_begin(web, side, numbers), having != [])
                        if having == [] or size == web[side]:
                            self.assertIs(type(raised(next_span, web, side, numbers)), CanNot)
                            continue
                        come = sorted({row[size] for row in having})
                        self.assertEqual(next_span(web, side, list(numbers)), (come[0], come[-1]))
                        # The guarantee: all from the least to the greatest.
                        self.assertEqual(come, list(range(come[0], come[-1] + 1)))

    def test_numbers_of_any_size(self):
        for numbers in ((10**6,), (0, 10**6), (10**18,), (0, 1, 10**30), (10**30, 0)):
            self.assertIs(can_begin(HOUSE, 0, numbers), False)
            self.assertIs(type(raised(next_span, HOUSE, 0, numbers)), CanNot)


class Refusals(unittest.TestCase):
    def test_beginnings(self):
        for call in (can_begin, next_span):
            for numbers in (None, 0, "0", (-1,), (0, -1), (True,), (0, None), ("0",), ((0,),), (0, 0, 0, 0), (0,) * 10**4):
                self.assertIs(type(raised(call, HOUSE, 0, numbers)), Unfit)
            self.assertIs(type(raised(call, HOUSE, 2, ())), Unfit)
            self.assertIs(type(raised(call, HOUSE[:2], 0, ())), Unfit)
        self.assertIs(can_begin(HOUSE, 0, []), True)
        self.assertIs(can_begin(HOUSE, 0, (0, 1, 1)), True)
        error = raised(next_span, HOUSE, 0, (0, 1, 1))
        self.assertEqual((type(error), vars(error)), (CanNot, {}))

    def test_numbers(self):
        for number in (-1, -(10**6), True, None, "1", (1,)):
            self.assertIs(type(raised(row_at, HOUSE, 0, number)), Unfit)
            self.assertIs(type(raised(row_at, whole_web(6, 10), 0, number)), Unfit)
            self.assertIs(type(raised(rows_from, HOUSE, 0, (0, 1, 1), number)), Unfit)
        for call, rest in ((row_number, ()), (next_row, ()), (row_ahead, ()), (rows_from, (1,)), (rows_from, (201,))):
            for row in ((2, 0, 0), (0, 0, 2), (1, 1), (1, 0, True), None, "101", (1, 0, 1, 0)):
                self.assertIs(type(raised(call, HOUSE, 0, row, *rest)), Unfit)

    def test_too_many_ahead_of_can_not(self):
        web = whole_web(6, 10)
        for side in (0, 1):
            for number in (0, 2001, 2002, 10**18):
                error = raised(row_at, web, side, number)
                self.assertEqual((type(error), vars(error)), (TooMany, {}))
            self.assertIs(type(raised(row_number, web, side, first_row(web, side))), TooMany)
            self.assertIs(type(raised(row_number, web, side, (-1,) + first_row(web, side)[1:])), Unfit)
        # HOUSE has two ROWS of each SIDE.
        with mock.patch.object(few, "MOST_TOLD", 2):
            self.assertEqual([row_at(HOUSE, 0, 1), row_number(HOUSE, 0, (1, 0, 1))], [(1, 0, 1), 1])
            self.assertIs(type(raised(row_at, HOUSE, 0, 2)), CanNot)
        with mock.patch.object(few, "MOST_TOLD", 1):
            self.assertIs(type(raised(row_at, HOUSE, 0, 1)), TooMany)
            self.assertIs(type(raised(row_at, HOUSE, 0, 2)), TooMany)
            self.assertIs(type(raised(row_number, HOUSE, 0, (1, 0, 1))), TooMany)
            # These go from ROW to ROW.
            self.assertEqual(rows_from(HOUSE, 0, (0, 1, 1), 9), [(0, 1, 1), (1, 0, 1)])

    def test_two_hundred_and_one_more(self):
        row = first_row(FULL, 0)
        told = rows_from(FULL, 0, row, 200)
        self.assertEqual(told, all_rows(FULL, 0)[:200])
        for many in (201, 10**6, 10**18):
            error = raised(rows_from, FULL, 0, row, many)
            self.assertEqual((type(error), vars(error)), (TooMany, {}))
            self.assertIs(type(raised(rows_from, HOUSE, 0, (0, 1, 1), many)), TooMany)
        self.assertEqual(rows_from(FULL, 0, last_row(FULL, 0), 200), [last_row(FULL, 0)])
        told.append(None)
        self.assertEqual(len(rows_from(FULL, 0, row, 200)), 200)

    def test_two_thousand_rows(self):
        ten = whole_web(2, 10)
        web = glued(glued(glued(ten, (0, 0), ten, (0, 0)), (0, 0), ten, (0, 1)), (1, 0), whole_web(2, 2), (1, 0))
        for side in (0, 1):
            self.assertEqual([row_at(web, side, 0), row_at(web, side, 1999)], [first_row(web, side), last_row(web, side)])
            self.assertEqual(row_number(web, side, last_row(web, side)), 1999)
            self.assertIs(type(raised(row_at, web, side, 2000)), CanNot)


class Bounds(unittest.TestCase):
    def test_the_greatest_and_one_beyond(self):
        for web in (FULL, BROAD, BEYOND, whole_web(6, 10)):
            for side in (0, 1):
                self.assertIs(type(raised(row_ahead, web, side, first_row(web, side))), CanNot)
                self.assertIs(type(raised(next_row, web, side, last_row(web, side))), CanNot)
                told = rows_from(web, side, first_row(web, side), 60)
                self.assertEqual((len(told), told), (60, sorted(set(told))))
                self.assertTrue(all(is_row(web, side, row) for row in told))
                for ahead, row in zip(told, told[1:]):
                    self.assertEqual((next_row(web, side, ahead), row_ahead(web, side, row)), (row, ahead))
                row = last_row(web, side)
                for _ in range(20):
                    ahead = row_ahead(web, side, row)
                    self.assertLess(ahead, row)
                    self.assertEqual(next_row(web, side, ahead), row)
                    row = ahead

    def test_rows_of_a_great_web_all_in_a_row(self):
        for web in (FULL, whole_web(7, 6), ring_web(12), glued(ring_web(7), (0, 2), ring_web(8), (0, 0))):
            for side in (0, 1):
                rows = all_rows(web, side)
                told = []
                row = rows[0]
                while len(told) < len(rows):
                    more = rows_from(web, side, row, 200)
                    told.extend(more if not told else more[1:])
                    row = told[-1]
                self.assertEqual(told, rows)
                for ahead, row in list(zip(rows, rows[1:]))[::17]:
                    self.assertEqual(row_ahead(web, side, row), ahead)
                for row in rows[::97]:
                    for size in range(web[side]):
                        having = [own[size] for own in rows if own[:size] == row[:size]]
                        self.assertEqual(next_span(web, side, row[:size]), (min(having), max(having)))
                        self.assertIs(can_begin(web, side, row[:size] + (max(having) + 1,)), False)
                        self.assertIs(can_begin(web, side, row[:size] + (max(having),)), True)


if __name__ == "__main__":
    unittest.main()
