"""[5], with [2] and [3]: WEBS, PLACES, TIES, LOTS."""

import unittest
from itertools import product

from eachhandtied.errors import NoPlace, NoTie, Unfit
from eachhandtied.webs import hangs, is_lot, is_needed, is_place, is_tie, is_web, neighbours_of
from eachhandtied.webs import pieces, rank, sizes, ties_at
from tests import walks
from tests.wrong import NO_LOTS, NO_PAIRS, NO_SIDES, NO_WEBS, raised
from tests.walks import listed

HOUSE = (3, 3, ((0, 0), (0, 1), (1, 0), (1, 1), (2, 1), (2, 2)))
ONE = (1, 1, ((0, 0),))
GREAT = (12, 12, tuple((hand, task) for hand in range(12) for task in range(12) if (task - hand) % 12 < 5))


class Things(unittest.TestCase):
    def test_webs(self):
        for web in walks.small_webs():
            self.assertIs(is_web(web), True)
            self.assertIs(is_web(listed(web)), False)
            self.assertIs(is_web((web[0], web[1], list(web[2]))), False)
        self.assertTrue(is_web(GREAT))

    def test_no_webs(self):
        for thing in NO_WEBS:
            with self.subTest(thing=thing):
                self.assertIs(is_web(thing), False)

    def test_every_set_of_ties(self):
        for many, number in ((1, 1), (1, 3), (2, 2), (2, 3)):
            every = list(product(range(many), range(number)))
            for chosen in product((0, 1), repeat=len(every)):
                ties = tuple(tie for tie, there in zip(every, chosen) if there)
                wanted = walks.hang(many, number, ties)
                self.assertIs(is_web((many, number, ties)), wanted)
                self.assertIs(hangs(many, number, ties), wanted)
                self.assertIs(hangs(many, number, ties[::-1] + ties), wanted)
                self.assertIs(is_web((many, number, ties + ties[:1])) and ties != (), False)

    def test_things_beyond_the_bounds(self):
        long = (1, 3000, tuple((0, task) for task in range(3000)))
        self.assertTrue(is_web(long))
        self.assertTrue(is_lot(long, 1, tuple(range(3000))))
        self.assertFalse(is_lot(long, 1, tuple(range(3001))))
        self.assertFalse(is_web((10**30, 1, ((0, 0),))))
        self.assertFalse(is_web((10**9, 10**9, long[2])))
        self.assertFalse(is_place(HOUSE, (1, 10**40)))

    def test_places(self):
        for side, number in product(range(-2, 4), repeat=2):
            self.assertIs(is_place(HOUSE, (side, number)), side in (0, 1) and 0 <= number < 3)
        for thing in NO_PAIRS + [[0, 0], (0, 0, 0), ((0, 0),)]:
            self.assertIs(is_place(HOUSE, thing), False)
        wide = (1, 2, ((0, 0), (0, 1)))
        self.assertEqual([is_place(wide, own) for own in ((0, 1), (1, 1))], [False, True])

    def test_ties(self):
        for tie in product(range(-2, 5), repeat=2):
            self.assertIs(is_tie(HOUSE, tie), tie in HOUSE[2])
        for thing in NO_PAIRS + [[0, 0], (0, 0, 0)]:
            self.assertIs(is_tie(HOUSE, thing), False)

    def test_lots(self):
        for web, side in ((HOUSE, 0), (HOUSE, 1), ((1, 3, ((0, 0), (0, 1), (0, 2))), 0)):
            wanted = walks.lots(web[side])
            for size in range(5):
                for thing in product(range(-1, 4), repeat=size):
                    self.assertIs(is_lot(web, side, thing), thing in wanted)
            for thing in NO_LOTS + [[0], (0, (1,)), (False,)]:
                self.assertIs(is_lot(web, side, thing), False)

    def test_other_arguments_are_asked_first(self):
        for thing in (None, (0, 0), [0]):
            for web in NO_WEBS:
                for call in (is_place, is_tie):
                    self.assertIsInstance(raised(call, web, thing), Unfit)
                self.assertIsInstance(raised(is_lot, web, 0, thing), Unfit)
            for side in NO_SIDES:
                self.assertIsInstance(raised(is_lot, HOUSE, side, thing), Unfit)


class Hangs(unittest.TestCase):
    def test_lists(self):
        self.assertIs(hangs(2, 1, [[1, 0], [0, 0]]), True)
        self.assertIs(hangs(many=2, number=1, ties=([1, 0], [1, 0])), False)

    def test_many_places_and_few_ties(self):
        self.assertIs(hangs(10**6, 10**6, ()), False)
        self.assertIs(hangs(10**6, 10**6, ((10**6 - 1, 0),)), False)
        self.assertIs(hangs(1, 1, ((0, 0),) * 5), True)

    def test_wrong(self):
        for many in (0, -1, True, None, "1", (1,), 1.0):
            self.assertIsInstance(raised(hangs, many, 1, ((0, 0),)), Unfit)
            self.assertIsInstance(raised(hangs, 1, many, ((0, 0),)), Unfit)
            self.assertIsInstance(raised(hangs, many, 1, ()), Unfit)
            self.assertIsInstance(raised(hangs, 1, many, ()), Unfit)
        for ties in (None, 0, "00", ((0, 2),), ((2, 0),), ((0, -1),), ((-1, 0),), ((0, 0, 0),), ((True, 0),), (0, 0), ({},)):
            self.assertIsInstance(raised(hangs, 2, 2, ties), Unfit)


class Webs(unittest.TestCase):
    def test_against_a_walk(self):
        for web in walks.small_webs():
            many, number, ties = web
            self.assertEqual(sizes(web), (many, number, len(ties)))
            for side in (0, 1):
                for place in range(web[side]):
                    wanted = tuple(tie for tie in ties if tie[side] == place)
                    self.assertEqual(ties_at(web, (side, place)), wanted)
                    self.assertNotEqual(wanted, ())
                for lot in walks.lots(web[side]):
                    self.assertEqual(neighbours_of(web, side, lot), walks.neighbours(web, side, lot))
                    self.assertEqual(pieces(web, side, lot), walks.pieces(web, side, lot))
                    self.assertEqual(rank(web, side, lot), walks.rank(web, side, lot))
            for tie in ties:
                left = [own for own in ties if own != tie]
                self.assertIs(is_needed(web, tie), not walks.hang(many, number, left))

    def test_pieces_and_ranks_of_greater_webs(self):
        for web in walks.greater_webs():
            for side in (0, 1):
                every = walks.lots(web[side])
                self.assertEqual(pieces(web, side, every[-1]), (every[-1],))
                ranks = {lot: rank(web, side, lot) for lot in every}
                ranks[()] = 0
                for lot in every:
                    met = [neighbours_of(web, side, piece) for piece in pieces(web, side, lot)]
                    self.assertEqual(len(set(sum(met, ()))), sum(len(own) for own in met))
                    self.assertTrue(0 <= ranks[lot] <= web[1 - side] - 1)
                for lot, other in product(every, repeat=2):
                    either = tuple(sorted(set(lot) | set(other)))
                    both = tuple(sorted(set(lot) & set(other)))
                    self.assertLessEqual(ranks[either] + ranks[both], ranks[lot] + ranks[other])

    def test_at_the_bounds(self):
        self.assertEqual(sizes(GREAT), (12, 12, 60))
        self.assertEqual(rank(GREAT, 0, tuple(range(12))), 11)
        self.assertEqual(neighbours_of(GREAT, 0, (11,)), (0, 1, 2, 3, 11))
        self.assertEqual(pieces(GREAT, 0, (0, 5)), ((0,), (5,)))
        self.assertEqual(pieces(GREAT, 0, (0, 4, 8)), ((0, 4, 8),))
        self.assertEqual(len(ties_at(GREAT, (1, 11))), 5)

    def test_the_least_web(self):
        self.assertEqual(sizes(ONE), (1, 1, 1))
        self.assertEqual((rank(ONE, 0, (0,)), pieces(ONE, 1, (0,)), is_needed(ONE, (0, 0))), (0, ((0,),), True))

    def test_lists_and_names_tell_the_same(self):
        web = listed(HOUSE)
        self.assertEqual(sizes(web), sizes(web=HOUSE))
        self.assertEqual(ties_at(web, [1, 1]), ties_at(place=(1, 1), web=HOUSE))
        self.assertEqual(neighbours_of(web, 0, [0, 2]), neighbours_of(lot=(0, 2), web=HOUSE, side=0))
        self.assertEqual(pieces(web, 1, [0, 2]), pieces(web=HOUSE, side=1, lot=(0, 2)))
        self.assertEqual(rank(web, 1, [0, 2]), rank(web=HOUSE, side=1, lot=(0, 2)))
        self.assertEqual(is_needed(web, [2, 2]), is_needed(web=HOUSE, tie=(2, 2)))
        self.assertEqual((is_place(web, (0, 1)), is_tie(web, (0, 1)), is_lot(web, 0, (1,))), (True, True, True))
        self.assertEqual(is_web(thing=HOUSE), is_place(web=HOUSE, thing=(0, 0)))
        self.assertEqual(is_tie(web=HOUSE, thing=(0, 0)), is_lot(web=HOUSE, side=0, thing=(0,)))
        self.assertEqual(web, listed(HOUSE))


class Errors(unittest.TestCase):
    def test_no_place(self):
        for place in ((0, 3), (1, 3), (0, -1), (1, -3), (2, 0), (-1, 0), (10**6, 10**6)):
            for told in (place, list(place)):
                error = raised(ties_at, HOUSE, told)
                self.assertIsInstance(error, NoPlace)
                self.assertEqual(error.place, place)
                self.assertIs(type(error.place), tuple)

    def test_no_tie(self):
        for tie in ((0, 2), (2, 0), (3, 3), (-1, 1), (0, -2)):
            for told in (tie, list(tie)):
                error = raised(is_needed, HOUSE, told)
                self.assertIsInstance(error, NoTie)
                self.assertEqual(error.tie, tie)
                self.assertIs(type(error.tie), tuple)

    def test_unfit_webs(self):
        for web in NO_WEBS:
            for call, rest in (
                (sizes, ()),
                (ties_at, ((0, 0),)),
                (ties_at, ((9, 9),)),
                (neighbours_of, (0, (0,))),
                (pieces, (0, (0,))),
                (rank, (0, (0,))),
                (is_needed, ((0, 0),)),
                (is_needed, ((9, 9),)),
            ):
                with self.subTest(call=call.__name__, web=web):
                    self.assertIsInstance(raised(call, web, *rest), Unfit)

    def test_unfit_sides_and_lots(self):
        for call in (neighbours_of, pieces, rank):
            for side in NO_SIDES:
                self.assertIsInstance(raised(call, HOUSE, side, (0,)), Unfit)
            for lot in NO_LOTS:
                self.assertIsInstance(raised(call, HOUSE, 0, lot), Unfit)

    def test_unfit_pairs(self):
        for pair in NO_PAIRS:
            self.assertIsInstance(raised(ties_at, HOUSE, pair), Unfit)
            self.assertIsInstance(raised(is_needed, HOUSE, pair), Unfit)


if __name__ == "__main__":
    unittest.main()
