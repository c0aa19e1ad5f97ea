"""[22]: WORTHS, against a plain walk over small WEBS."""

import unittest
from itertools import permutations, product
from unittest import mock

from eachhandtied import few
from eachhandtied.changed import glued
from eachhandtied.counts import ring_web, whole_web
from eachhandtied.errors import CanNot, TooMany, Unfit
from eachhandtied.rows import all_rows
from eachhandtied.worths import all_best, best_row, best_worth, better, is_best_row, is_better, levels, worth
from tests import walks
from tests.walks import listed
from tests.wrong import BEYOND, BROAD, FULL, HOUSE, raised

LOOP = ring_web(3)


def sides_of(webs):
    """The triples of a WEB, a SIDE and the ROWS of it."""
    return [(web, side, walks.rows(web, side)) for web in webs for side in (0, 1)]


SMALL = sides_of(walks.some_webs())
ALL = SMALL + sides_of(walks.greater_webs()[::2])


def some_worths(many):
    """Some WORTHS of so many places."""
    told = [(0,) * many, (-7,) * many, tuple(range(many)), tuple(range(many))[::-1]]
    told += [tuple((place * by) % 5 - 2 for place in range(many)) for by in (2, 3)]
    return told + [(10**9,) + (-(10**9),) * (many - 1), tuple(place % 2 for place in range(many))]


def worth_of(row, worths):
    return sum(own * number for own, number in zip(row, worths))


def levels_of(worths):
    return tuple(
        tuple(place for place in range(len(worths)) if worths[place] >= own) for own in sorted(set(worths), reverse=True)
    )


def after(row, pair):
    return tuple(own - (at == pair[0]) + (at == pair[1]) for at, own in enumerate(row))


class Worths(unittest.TestCase):
    def test_every_web(self):
        for web, side, rows in ALL:
            for worths in some_worths(web[side]):
                self.check(web, side, rows, worths)

    def test_every_worths(self):
        for web, side, rows in SMALL[::3]:
            for worths in product((-1, 0, 3), repeat=web[side]):
                self.check(web, side, rows, worths)

    def check(self, web, side, rows, worths):
        """Hold all of [22] against the list of all ROWS."""
        most = max(worth_of(row, worths) for row in rows)
        wanted = [row for row in rows if worth_of(row, worths) == most]
        self.assertEqual(best_worth(web, side, worths), most)
        self.assertEqual(all_best(web, side, worths), wanted)
        self.assertIn(best_row(web, side, worths), wanted)
        self.assertEqual(levels(web, side, worths), levels_of(worths))
        for row in rows:
            self.assertEqual(worth(web, side, row, worths), worth_of(row, worths))
            self.assertIs(is_best_row(web, side, worths, row), row in wanted)
            ways = []
            for pair in permutations(range(web[side]), 2):
                if after(row, pair) in rows and worths[pair[0]] < worths[pair[1]]:
                    ways.append(pair)
                self.assertIs(is_better(web, side, row, worths, pair), pair in ways)
            # The guarantee: dearest exactly if there is none.
            self.assertIs(ways == [], row in wanted)
            if ways:
                self.assertIn(better(web, side, row, worths), ways)
            else:
                error = raised(better, web, side, row, worths)
                self.assertEqual((type(error), vars(error)), (CanNot, {}))

    def test_guarantees(self):
        for web, side, rows in ALL[::3]:
            for worths in some_worths(web[side]):
                chain = levels_of(worths)
                steps = sorted(set(worths), reverse=True) + [0]
                ranks = [walks.rank(web, side, lot) for lot in chain]
                told = sum(rank * (steps[at] - steps[at + 1]) for at, rank in enumerate(ranks))
                self.assertEqual(best_worth(web, side, worths), told)
                for row in rows:
                    full = all(sum(row[own] for own in lot) == rank for lot, rank in zip(chain, ranks))
                    self.assertIs(is_best_row(web, side, worths, row), full)
                more = tuple(own + 5 for own in worths)
                self.assertEqual(all_best(web, side, more), all_best(web, side, worths))

    def test_best_rows_lead_to_one_another(self):
        for web, side, _ in ALL[::4]:
            for worths in some_worths(web[side]):
                wanted = all_best(web, side, worths)
                pairs = [own for own in permutations(range(web[side]), 2) if worths[own[0]] == worths[own[1]]]
                found, waiting = {wanted[0]}, [wanted[0]]
                while waiting:
                    row = waiting.pop()
                    for told in [after(row, pair) for pair in pairs]:
                        if told in wanted and told not in found:
                            found.add(told)
                            waiting.append(told)
                self.assertEqual(sorted(found), wanted)

    def test_both_ways_to_them(self):
        # With no LOTS ranked they are found from ROW to ROW, as on great SIDES.
        with mock.patch.object(few, "MOST_RANKED", 0):
            for web, side, rows in ALL[::3]:
                for worths in some_worths(web[side]):
                    most = max(worth_of(row, worths) for row in rows)
                    wanted = [row for row in rows if worth_of(row, worths) == most]
                    self.assertEqual(all_best(web, side, worths), wanted)


class Things(unittest.TestCase):
    def test_bent_rows(self):
        worths = (5, 2, 2)
        self.assertIs(is_best_row(LOOP, 0, worths, (1, 0, 1)), True)
        for thing in (
            None,
            7,
            "101",
            (),
            [1, 0, 1],
            (True, 0, 1),
            (1, False, 1),
            (1, 0, 1, 0),
            (1, 0),
            (1, 0, None),
            (1, 0, "1"),
            ((1, 0, 1),),
            (0, 1, 1),
            (2, 0, 0),
            (2, 1, -1),
            (10**30, 0, 2 - 10**30),
            (1,) * 10**5,
        ):
            self.assertIs(is_best_row(LOOP, 0, worths, thing), False)

    def test_bent_handings(self):
        for thing in ((1, 0), (2, 0)):
            self.assertIs(is_better(LOOP, 0, (0, 1, 1), (5, 2, 2), thing), True)
        for thing in (
            None,
            1,
            "10",
            (),
            [1, 0],
            (1,),
            (1, 0, 0),
            (True, 0),
            (1, False),
            (1, None),
            (1, 3),
            (-2, 0),
            (1, 1),
            (0, 0),
            (0, 1),
            (1, 2),
            ((1, 0),),
            (10**30, 0),
        ):
            self.assertIs(is_better(LOOP, 0, (0, 1, 1), (5, 2, 2), thing), False)

    def test_lists(self):
        self.assertEqual(worth(listed(LOOP), 0, [1, 0, 1], [5, 2, 2]), 7)
        self.assertEqual(levels(LOOP, 1, [1, 3, 2]), ((1,), (1, 2), (0, 1, 2)))


class Refusals(unittest.TestCase):
    def test_unfit_ahead_of_all(self):
        for worths in (None, 0, "555", (), (1, 2), (1, 2, 3, 4), (True, 0, 0), (0, None, 0), ("1", 0, 0), ((1, 2, 3),)):
            for call in (best_worth, best_row, all_best, levels):
                self.assertIs(type(raised(call, HOUSE, 0, worths)), Unfit)
            for call in (worth, better):
                self.assertIs(type(raised(call, HOUSE, 0, (1, 0, 1), worths)), Unfit)
            self.assertIs(type(raised(is_best_row, HOUSE, 0, worths, (1, 0, 1))), Unfit)
            self.assertIs(type(raised(is_better, HOUSE, 0, (1, 0, 1), worths, (0, 1))), Unfit)
        for row in ((2, 0, 0), (0, 0, 2), (1, 1), None, (1, 0, True)):
            self.assertIs(type(raised(worth, HOUSE, 0, row, (0, 0, 0))), Unfit)
            self.assertIs(type(raised(better, HOUSE, 0, row, (0, 0, 0))), Unfit)
            self.assertIs(type(raised(is_better, HOUSE, 0, row, (0, 0, 0), None)), Unfit)
        self.assertIs(type(raised(all_best, whole_web(6, 10), 0, (0,) * 7)), Unfit)
        self.assertIs(type(raised(all_best, whole_web(6, 10), 2, (0,) * 6)), Unfit)

    def test_too_many(self):
        web = whole_web(6, 10)
        error = raised(all_best, web, 0, (3,) * 6)
        self.assertEqual((type(error), vars(error)), (TooMany, {}))
        self.assertIs(type(raised(all_best, web, 1, (-3,) * 10)), TooMany)
        # Only the dearest ones are told, and only they can be too many.
        self.assertEqual(all_best(web, 0, (0, 0, 0, 0, 0, 1)), [(0, 0, 0, 0, 0, 9)])
        self.assertEqual(len(all_best(web, 0, (1, 1, 0, 1, 1, -1))), 220)
        self.assertIs(type(raised(all_best, BROAD, 0, (1, 1) + (0,) * 10)), TooMany)
        with mock.patch.object(few, "MOST_TOLD", 2):
            self.assertEqual(all_best(LOOP, 0, (5, 2, 2)), [(1, 0, 1), (1, 1, 0)])
            self.assertIs(type(raised(all_best, LOOP, 0, (2, 2, 2))), TooMany)
        with mock.patch.object(few, "MOST_TOLD", 1):
            self.assertIs(type(raised(all_best, LOOP, 0, (5, 2, 2))), TooMany)
            self.assertEqual(all_best(LOOP, 0, (5, 3, 2)), [(1, 1, 0)])

    def test_two_thousand_best_rows_and_more(self):
        ten = whole_web(2, 10)
        web = glued(glued(glued(ten, (0, 0), ten, (0, 0)), (0, 0), ten, (0, 1)), (1, 0), whole_web(2, 2), (1, 0))
        for side in (0, 1):
            self.assertEqual(all_best(web, side, (4,) * web[side]), all_rows(web, side))
        twice = glued(web, (0, 0), whole_web(2, 2), (0, 0))
        self.assertIs(type(raised(all_best, twice, 0, (0,) * twice[0])), TooMany)
        told = all_best(twice, 0, (0,) * (twice[0] - 1) + (1,))
        self.assertEqual((len(told), {row[-1] for row in told}), (2000, {1}))


class Bounds(unittest.TestCase):
    def test_the_greatest_and_one_beyond(self):
        for web in (FULL, BROAD, BEYOND):
            for side in (0, 1):
                for worths in some_worths(web[side])[2:] + [tuple(10**9 + place for place in range(web[side]))]:
                    row = best_row(web, side, worths)
                    self.assertIs(is_best_row(web, side, worths, row), True)
                    self.assertEqual(best_worth(web, side, worths), worth_of(row, worths))
                    self.assertIs(type(raised(better, web, side, row, worths)), CanNot)
                    chain = levels_of(worths)
                    self.assertEqual(levels(web, side, worths), chain)
                    for lot in chain:
                        self.assertEqual(sum(row[own] for own in lot), walks.rank(web, side, lot))
                    if len(set(worths)) == web[side]:
                        self.assertEqual(all_best(web, side, worths), [row])

    def test_many_best_rows_of_the_greatest(self):
        worths = (3, 3, 3, 3, 2, 2, 2, 2, 1, 1, 1, 1)
        told = all_best(BROAD, 0, worths)
        with mock.patch.object(few, "MOST_RANKED", 0):
            self.assertEqual(all_best(BROAD, 0, worths), told)
        self.assertEqual({worth_of(row, worths) for row in told}, {best_worth(BROAD, 0, worths)})
        self.assertEqual(told, sorted(set(told)))


if __name__ == "__main__":
    unittest.main()
