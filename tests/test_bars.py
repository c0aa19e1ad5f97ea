"""[9]: BARS and full LOTS, against a plain walk over small WEBS."""

import unittest
from itertools import product
from unittest import mock

from eachhandtied import bars
from eachhandtied.bars import bar, full_lots, is_bar, least_bar, least_full, most_more, room
from eachhandtied.changed import glued
from eachhandtied.errors import CanNot, TooMany, Unfit
from eachhandtied.webs import neighbours_of, pieces
from tests import walks
from tests.wrong import NO_LOTS, raised
from tests.walks import listed

GREAT = (12, 12, tuple(sorted((hand, (hand + more) % 12) for hand in range(12) for more in range(5))))
RING = (12, 12, tuple(sorted((hand, (hand + more) % 12) for hand in range(12) for more in range(2))))


def star(many):
    return many, 1, tuple((hand, 0) for hand in range(many))


def webs_and_sides():
    return [(web, side) for web in walks.some_webs() + walks.greater_webs() for side in (0, 1)]


class Bars(unittest.TestCase):
    def test_every_call(self):
        for web, side in webs_and_sides():
            rows = walks.rows(web, side)
            for call in walks.calls(web, side):
                wanted = walks.bars(web, side, call)
                self.assertIs(not wanted, call in rows)
                for lot in walks.lots(web[side]):
                    self.assertIs(is_bar(web, side, call, lot), lot in wanted)
                    self.assertIs(is_bar(web, side, call, list(lot)), False)
                    near = len(walks.neighbours(web, side, lot))
                    self.assertEqual(room(web, side, call, lot), near - 1 - sum(call[own] for own in lot))
                if wanted:
                    self.assertIn(bar(web, side, call), wanted)
                    self.assertEqual(least_bar(web, side, call), min(wanted, key=lambda lot: (len(lot), lot)))
                else:
                    self.assertIsInstance(raised(bar, web, side, call), CanNot)
                    self.assertIsInstance(raised(least_bar, web, side, call), CanNot)

    def test_some_piece_of_a_bar_is_a_bar(self):
        for web, side in webs_and_sides():
            for call in walks.calls(web, side):
                for lot in walks.bars(web, side, call):
                    self.assertTrue([own for own in pieces(web, side, lot) if is_bar(web, side, call, own)])

    def test_other_things_are_no_bars(self):
        web = (3, 3, ((0, 0), (0, 1), (1, 0), (1, 1), (2, 1), (2, 2)))
        for thing in NO_LOTS + [[0], (0, 1, 2, 2), (10**40,), (0,) * 10**5]:
            self.assertIs(is_bar(web, 0, (2, 0, 0), thing), False)
        self.assertIs(is_bar(web, 0, (2, 0, 0), (0,)), True)

    def test_at_the_bounds(self):
        for call, wanted in (
            ((5, 6) + (0,) * 10, (0,)),
            ((4, 4, 3) + (0,) * 9, (0, 1)),
            ((4, 0, 0, 0, 4, 0, 0, 0, 3, 0, 0, 0), None),
        ):
            if wanted is None:
                self.assertIsInstance(raised(least_bar, GREAT, 0, call), CanNot)
                continue
            self.assertEqual(least_bar(GREAT, 0, call), wanted)
            self.assertTrue(is_bar(GREAT, 0, call, bar(GREAT, 0, call)))
        self.assertEqual(least_bar(RING, 0, (1, 0, 0) + (1,) * 7 + (2, 1)), (10,))
        self.assertEqual(room(GREAT, 0, (1,) * 11 + (0,), tuple(range(12))), 0)
        self.assertEqual(room(GREAT, 1, (11,) + (0,) * 11, (0,)), -7)


class Full(unittest.TestCase):
    def test_every_row(self):
        for web, side in webs_and_sides():
            rows = walks.rows(web, side)
            for row in rows:
                wanted = [lot for lot in walks.lots(web[side]) if room(web, side, row, lot) == 0]
                self.assertEqual(full_lots(web, side, row), sorted(wanted))
                self.assertIn(tuple(range(web[side])), wanted)
                for number in range(web[side]):
                    having = [set(lot) for lot in wanted if number in lot]
                    self.assertEqual(least_full(web, side, row, number), tuple(sorted(set.intersection(*having))))
                for lot in walks.lots(web[side]):
                    most = max(sum(own[place] for place in lot) for own in rows)
                    self.assertEqual(most_more(web, side, row, lot), most - sum(row[place] for place in lot))

    def test_guarantees(self):
        for web, side in webs_and_sides():
            rows = walks.rows(web, side)
            for row in rows:
                full = full_lots(web, side, row)
                for lot, other in product(full, repeat=2):
                    both = tuple(sorted(set(lot) & set(other)))
                    if both:
                        self.assertIn(both, full)
                        self.assertIn(tuple(sorted(set(lot) | set(other))), full)
                    else:
                        met = set(neighbours_of(web, side, lot)) & set(neighbours_of(web, side, other))
                        self.assertLessEqual(len(met), 1)
                for more, less in product(range(web[side]), repeat=2):
                    if more != less:
                        handed = [own + (at == more) - (at == less) for at, own in enumerate(row)]
                        fits = row[less] > 0 and less in least_full(web, side, row, more)
                        self.assertIs(fits, tuple(handed) in rows)

    def test_at_the_bounds(self):
        self.assertEqual(full_lots(RING, 0, (1,) * 11 + (0,))[:2], [(0,), (0, 1)])
        self.assertEqual(least_full(RING, 0, (1,) * 11 + (0,), 11), tuple(range(12)))
        self.assertEqual(most_more(GREAT, 0, (1,) * 11 + (0,), (0, 1, 2, 3, 4)), 3)
        self.assertEqual(most_more(GREAT, 1, (1,) * 11 + (0,), (11,)), 4)
        self.assertEqual(len(full_lots(star(10), 0, (0,) * 10)), 1023)
        self.assertIsInstance(raised(full_lots, star(11), 0, (0,) * 11), TooMany)
        self.assertEqual(full_lots(star(12), 1, (11,)), [(0,)])

    def test_greater_webs_that_are_returned(self):
        web = glued(RING, (0, 0), RING, (0, 0))
        row = (3,) + (1,) * 10 + (0,) + (1,) * 10 + (0,)
        self.assertEqual(least_full(web, 0, row, 1), (1,))
        self.assertEqual([most_more(web, 0, row, own) for own in ((0,), (11,), (11, 22))], [0, 1, 2])
        self.assertIn(tuple(range(23)), full_lots(web, 0, row))

    def test_just_so_many_are_told(self):
        self.assertEqual(bars.MOST_TOLD, 2000)
        with mock.patch.object(bars, "MOST_TOLD", 31):
            self.assertEqual(len(full_lots(star(5), 0, (0,) * 5)), 31)
        with mock.patch.object(bars, "MOST_TOLD", 1):
            self.assertIsInstance(raised(full_lots, star(2), 0, (0, 0)), TooMany)
            every = (2, 3, ((0, 0), (0, 1), (0, 2), (1, 0), (1, 1), (1, 2)))
            self.assertIsInstance(raised(full_lots, every, 0, (2, 0)), TooMany)
        with mock.patch.object(bars, "MOST_TOLD", 30):
            self.assertIsInstance(raised(full_lots, star(5), 0, (0,) * 5), TooMany)

    def test_rows_alone_are_fit(self):
        web = (3, 3, ((0, 0), (0, 1), (1, 0), (1, 1), (2, 1), (2, 2)))
        for row in ((2, 0, 0), (1, 1, 0), listed((0, 0, 2))):
            self.assertIsInstance(raised(full_lots, web, 0, row), Unfit)
            self.assertIsInstance(raised(least_full, web, 0, row, 0), Unfit)
            self.assertIsInstance(raised(most_more, web, 0, row, (0,)), Unfit)
            self.assertIsNone(raised(room, web, 0, row, (0,)))


if __name__ == "__main__":
    unittest.main()
