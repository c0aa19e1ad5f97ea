"""[17]: HANDINGS and PLANS, against a plain walk over small WEBS."""

import unittest
from itertools import permutations, product

from eachhandtied.errors import Broken, CanNot, Unfit
from eachhandtied.handings import can_hand, fewest_handings, handed, handings, is_plan, is_why_not_handed, led_by
from eachhandtied.handings import plan, plan_back, why_not_handed
from tests import walks
from tests.walks import listed
from tests.wrong import BEYOND, BROAD, FULL, raised

RING = (3, 3, ((0, 0), (0, 1), (1, 1), (1, 2), (2, 0), (2, 2)))


def sides_of(webs):
    """The triples of a WEB, a SIDE and the ROWS of it."""
    return [(web, side, walks.rows(web, side)) for web in webs for side in (0, 1)]


SMALL = sides_of(walks.some_webs())
ALL = SMALL + sides_of(walks.greater_webs()[::2])


def after(row, pair):
    return tuple(own - (at == pair[0]) + (at == pair[1]) for at, own in enumerate(row))


def full(web, side, row, lot):
    return sum(row[place] for place in lot) == len(walks.neighbours(web, side, lot)) - 1


def led(rows, row, pairs):
    """The ROW to which pairs lead; the place of the first that is no HANDING."""
    for at, pair in enumerate(pairs):
        row = after(row, pair)
        if row not in rows:
            return at
    return row


class Handings(unittest.TestCase):
    def test_every_pair(self):
        for web, side, rows in ALL:
            for row in rows:
                wanted = []
                for pair in permutations(range(web[side]), 2):
                    if after(row, pair) in rows:
                        wanted.append(pair)
                        self.assertEqual(handed(web, side, row, pair), after(row, pair))
                        self.assertIs(can_hand(web, side, after(row, pair), pair[::-1]), True)
                    else:
                        self.assertIs(type(raised(handed, web, side, row, pair)), CanNot)
                    self.assertIs(can_hand(web, side, row, pair), after(row, pair) in rows)
                self.assertEqual(handings(web, side, row), tuple(wanted))

    def test_every_reason(self):
        for web, side, rows in ALL:
            lots = walks.lots(web[side])
            for row in rows:
                for pair in permutations(range(web[side]), 2):
                    less, more = pair
                    wanted = [("nought", less)] if row[less] == 0 else []
                    stop = [lot for lot in lots if more in lot and less not in lot and full(web, side, row, lot)]
                    wanted.extend(("full", lot) for lot in stop)
                    if after(row, pair) in rows:
                        self.assertEqual(wanted, [])
                        self.assertIs(type(raised(why_not_handed, web, side, row, pair)), CanNot)
                    else:
                        self.assertIn(why_not_handed(web, side, row, pair), wanted)
                    every = [("full", lot) for lot in lots] + [("nought", own) for own in range(web[side])]
                    for thing in every:
                        self.assertIs(is_why_not_handed(web, side, row, pair, thing), thing in wanted)

    def test_bent_reasons(self):
        row = (0, 1, 1)
        for pair, told in (((1, 2), ("full", (2,))), ((0, 1), ("nought", 0)), ((0, 1), ("full", (1,)))):
            self.assertIs(is_why_not_handed(RING, 0, row, pair, told), True)
            self.assertIs(is_why_not_handed(RING, 0, row, pair, list(told)), False)
            self.assertIs(is_why_not_handed(RING, 0, row, pair, listed(told)), False)
            self.assertIs(is_why_not_handed(RING, 0, row, pair, told + (0,)), False)
            self.assertIs(is_why_not_handed(RING, 0, row, pair, told[:1]), False)
            self.assertIs(is_why_not_handed(RING, 0, row, pair, told[::-1]), False)
            self.assertIs(is_why_not_handed(RING, 0, row, pair, (told,)), False)
        for thing in (
            None,
            0,
            "full",
            "nought",
            (),
            ("full", 2),
            ("full", [2]),
            ("full", ()),
            ("full", (2, 2)),
            ("full", (2, 1)),
            ("full", (2, 3)),
            ("full", (1, 2)),
            ("full", (0, 2)),
            ("full", ("2",)),
            ("full", (None,)),
            ("full", None),
            ("nought", (2,)),
            ("nought", 1),
            (("full",), (2,)),
            (True, (2,)),
            ("fullness", (2,)),
        ):
            self.assertIs(is_why_not_handed(RING, 0, row, (1, 2), thing), False)
        for thing in (("nought", False), ("nought", None), ("nought", "0"), ("nought", (0,)), ("nought", 1), ("full", (True,))):
            self.assertIs(is_why_not_handed(RING, 0, row, (0, 1), thing), False)

    def test_refusals(self):
        for pair in ((1, 2), (2, 1), (0, 1), (0, 2)):
            error = raised(handed, RING, 0, (0, 1, 1), list(pair))
            self.assertEqual((type(error), vars(error)), (CanNot, {}))
        error = raised(why_not_handed, RING, 0, (0, 1, 1), (1, 0))
        self.assertEqual((type(error), vars(error)), (CanNot, {}))
        for call, rest in ((can_hand, ()), (handed, ()), (why_not_handed, ()), (is_why_not_handed, (None,))):
            for pair in ((0, 0), (0, 3), (3, 0), (-1, 0), (0, 10**6), (0, True), (0,), (0, 1, 2), None, ((0, 1),)):
                self.assertIs(type(raised(call, RING, 0, (0, 1, 1), pair, *rest)), Unfit)
            self.assertIs(type(raised(call, RING, 0, (0, 2, 0), (1, 0), *rest)), Unfit)
            self.assertIs(type(raised(call, RING, 2, (0, 1, 1), (1, 0), *rest)), Unfit)


class Plans(unittest.TestCase):
    def test_each_to_each(self):
        for web, side, rows in ALL:
            step = 1 + len(rows) // 12
            for row in rows[::step]:
                # How many HANDINGS lead to each ROW, by a walk from ROW to ROW.
                far, waiting = {row: 0}, [row]
                for own in waiting:
                    for pair in permutations(range(web[side]), 2):
                        other = after(own, pair)
                        if other in rows and other not in far:
                            far[other] = far[own] + 1
                            waiting.append(other)
                for goal in rows:
                    many = sum(abs(own - other) for own, other in zip(row, goal)) // 2
                    self.assertEqual((fewest_handings(web, side, row, goal), far[goal]), (many, many))
                    told = plan(web, side, row, goal)
                    self.assertIsInstance(told, tuple)
                    self.assertEqual((len(told), led(rows, row, told)), (many, goal))
                    self.assertIs(is_plan(web, side, row, goal, told), True)
                    self.assertTrue(all(row[less] > goal[less] and row[more] < goal[more] for less, more in told))

    def test_every_short_plan(self):
        for web, side, rows in SMALL[::7]:
            pairs = list(permutations(range(web[side]), 2))
            for row, goal in product(rows, repeat=2):
                many = fewest_handings(web, side, row, goal)
                for size in (0, 1, 2):
                    for thing in product(pairs, repeat=size):
                        wanted = size == many and led(rows, row, thing) == goal
                        self.assertIs(is_plan(web, side, row, goal, thing), wanted)

    def test_guarantees(self):
        for web, side, rows in ALL:
            for row, goal in product(rows[::3], rows[::2]):
                more = [place for place in range(web[side]) if row[place] > goal[place]]
                less = [place for place in range(web[side]) if row[place] < goal[place]]
                for place in more:
                    self.assertTrue(any(can_hand(web, side, row, (place, own)) for own in less))
                for place in less:
                    self.assertTrue(any(can_hand(web, side, row, (own, place)) for own in more))

    def test_bent_plans(self):
        web, row, goal = (2, 4, tuple(product(range(2), range(4)))), (0, 3), (2, 1)
        told = ((1, 0), (1, 0))
        self.assertIs(is_plan(web, 0, row, goal, told), True)
        for thing in (
            None,
            2,
            "10",
            (),
            [],
            list(told),
            listed(told),
            told[:1],
            told + told[:1],
            told + ((0, 1), (1, 0)),
            ([1, 0], (1, 0)),
            ((1, 0), [1, 0]),
            ((True, 0), (1, 0)),
            ((1, False), (1, 0)),
            ((1, 0), (1, None)),
            ((1, 0), (1, "0")),
            ((1, 0), (1, 0, 0)),
            ((1, 0), (1,)),
            ((1, 0), (1, 1)),
            ((1, 0), (1, 2)),
            ((1, 0), (0, 1)),
            ((0, 1), (1, 0)),
            (1, 0),
            (told,),
            told * 10**4,
        ):
            self.assertIs(is_plan(web, 0, row, goal, thing), False)
        self.assertIs(is_plan(web, 0, row, row, ()), True)
        self.assertIs(is_plan(web, 0, row, row, []), False)
        self.assertIs(is_plan(web, 0, row, row, ((1, 0), (0, 1))), False)

    def test_led(self):
        for web, side, rows in SMALL[::3]:
            pairs = list(permutations(range(web[side]), 2))
            for row in rows[:3]:
                for told in [own for size in (0, 1, 2) for own in product(pairs, repeat=size)]:
                    come = led(rows, row, told)
                    if isinstance(come, tuple):
                        self.assertEqual(led_by(web, side, row, told), come)
                        back = plan_back(web, side, row, told)
                        self.assertEqual(back, tuple(own[::-1] for own in told[::-1]))
                        self.assertEqual(led_by(web, side, come, back), row)
                    else:
                        for call in (led_by, plan_back):
                            error = raised(call, web, side, row, told)
                            self.assertEqual((type(error), vars(error)), (Broken, {"place": come}))

    def test_unfit_plans_are_ahead_of_broken_ones(self):
        broken = ((1, 2),)
        for call in (led_by, plan_back):
            error = raised(call, RING, 0, (0, 1, 1), listed(broken))
            self.assertEqual((type(error), vars(error)), (Broken, {"place": 0}))
            for wrong in ((0, 0), (0, 3), (-1, 0), (0, True), (0,), None, (0, 1, 2), "01", ((0, 1),)):
                self.assertIs(type(raised(call, RING, 0, (0, 1, 1), broken + (wrong,))), Unfit)
            for wrong in (None, 0, "plan", (1, 0), (broken,)):
                self.assertIs(type(raised(call, RING, 0, (0, 1, 1), wrong)), Unfit)
            self.assertIs(type(raised(call, RING, 0, (2, 0, 0), broken)), Unfit)
            self.assertIs(type(raised(call, RING, True, (0, 1, 1), broken)), Unfit)


class Bounds(unittest.TestCase):
    def test_two_hundred_handings_and_one_more(self):
        to_and_fro = ((0, 5), (5, 0)) * 101
        row, goal = (4,) + (0,) * 11, (3, 0, 0, 0, 0, 1) + (0,) * 6
        for size in (200, 201, 202):
            told = to_and_fro[:size]
            come = goal if size % 2 else row
            self.assertEqual(led_by(FULL, 0, row, told), come)
            back = plan_back(FULL, 0, row, told)
            self.assertEqual(len(back), size)
            self.assertEqual(led_by(FULL, 0, come, back), row)
        for size in (199, 200):
            broken = to_and_fro[:size] + ((7, 8),)
            for call in (led_by, plan_back):
                error = raised(call, FULL, 0, row, broken)
                self.assertEqual((type(error), vars(error)), (Broken, {"place": size}))

    def test_the_greatest_webs_and_one_beyond(self):
        for web, side, row, goal in (
            (FULL, 0, (4,) + (0,) * 11, (0,) * 11 + (4,)),
            (FULL, 1, (11, 0, 0, 0, 0), (0, 2, 3, 3, 3)),
            (BROAD, 0, (4, 0, 0, 0, 4, 0, 0, 0, 3, 0, 0, 0), (0, 0, 0, 3, 0, 0, 0, 4, 0, 0, 0, 4)),
            (BEYOND, 0, (4, 0, 0, 0, 4, 0, 0, 0, 4, 0, 0, 0, 0), (0, 3, 0, 0, 0, 3, 0, 0, 3, 0, 0, 3, 0)),
        ):
            told = plan(web, side, row, goal)
            self.assertEqual(len(told), fewest_handings(web, side, row, goal))
            self.assertIs(is_plan(web, side, row, goal, told), True)
            self.assertEqual(led_by(web, side, row, told), goal)
            self.assertEqual(led_by(web, side, goal, plan_back(web, side, row, told)), row)
            having = handings(web, side, row)
            for pair in permutations(range(web[side]), 2):
                self.assertIs(can_hand(web, side, row, pair), pair in having)
                if pair not in having:
                    reason = why_not_handed(web, side, row, pair)
                    self.assertIs(is_why_not_handed(web, side, row, pair, reason), True)


if __name__ == "__main__":
    unittest.main()
