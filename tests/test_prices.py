"""[12]: prices, POTENTIALS and COSTS, against a plain walk over small WEBS."""

import unittest

from eachhandtied.errors import CanNot, Unfit
from eachhandtied.prices import balance, cost, gap, is_cheaper, is_potentials, most_under, potentials, price, prices, under
from tests import walks
from tests.walks import listed
from tests.wrong import BEYOND, FULL, HOUSE, TREE, raised

SMALL = walks.some_webs()


def webs_and_orders():
    return [(web, order) for web in SMALL for order in walks.orders(web)]


def trees_and_orders():
    return [(web, tree, order) for web, order in webs_and_orders() for tree in walks.trees(web)[::2]]


class Prices(unittest.TestCase):
    def test_every_tie(self):
        for web, order in webs_and_orders():
            wanted = [walks.price(web, order, tie) for tie in web[2]]
            self.assertEqual(prices(web, order), tuple(wanted))
            self.assertEqual([price(web, order, tie) for tie in web[2]], wanted)
            falling = sorted(wanted, reverse=True)
            for at, own in enumerate(falling):
                self.assertGreater(own, (web[0] + web[1]) * sum(falling[at + 1:]))

    def test_the_greatest(self):
        self.assertEqual(price(FULL, FULL[2], (0, 0)), 18**59)
        self.assertEqual(prices(FULL, FULL[2][::-1])[:3], (1, 18, 324))
        self.assertEqual(len(BEYOND[2]), 61)
        self.assertEqual(price(BEYOND, BEYOND[2], BEYOND[2][0]), 27**60)


class Potentials(unittest.TestCase):
    def test_every_tree(self):
        for web, tree, order in trees_and_orders():
            wanted = walks.potentials(web, tree, order)
            told = potentials(web, tree, order)
            self.assertEqual(told, wanted)
            self.assertEqual(told[0][0], 0)
            for tie in tree:
                self.assertEqual(told[0][tie[0]] + told[1][tie[1]], walks.price(web, order, tie))
            self.assertIs(is_potentials(web, tree, order, told), True)
            for side in (0, 1):
                for at in range(web[side]):
                    bent = told[side][:at] + (told[side][at] + 1,) + told[side][at + 1:]
                    thing = (bent, told[1]) if side == 0 else (told[0], bent)
                    self.assertIs(is_potentials(web, tree, order, thing), False)

    def test_bent_things(self):
        hands, tasks = told = potentials(HOUSE, TREE, HOUSE[2])
        self.assertIs(is_potentials(HOUSE, TREE, HOUSE[2], told), True)
        for thing in (
            None,
            0,
            "",
            (),
            hands,
            list(told),
            listed(told),
            (list(hands), tasks),
            (hands, list(tasks)),
            (tasks, hands),
            told + ((),),
            (hands,),
            (hands[:2], tasks),
            (hands, tasks + (0,)),
            ((False,) + hands[1:], tasks),
            ((None,) + hands[1:], tasks),
            (tuple((own,) for own in hands), tasks),
            (tuple(str(own) for own in hands), tasks),
            ((0,) * 10**5, tasks),
            (tuple(own + 1 for own in hands), tuple(own - 1 for own in tasks)),
        ):
            self.assertIs(is_potentials(HOUSE, TREE, HOUSE[2], thing), False)
        one = (1, 1, ((0, 0),))
        self.assertIs(is_potentials(one, one[2], one[2], ((0,), (1,))), True)
        self.assertIs(is_potentials(one, one[2], one[2], ((0,), (True,))), False)
        self.assertIs(is_potentials(one, one[2], one[2], ((False,), (1,))), False)

    def test_gaps(self):
        for web, tree, order in trees_and_orders():
            below = []
            for tie in web[2]:
                told = gap(web, tree, order, tie)
                self.assertEqual(told, walks.gap(web, tree, order, tie))
                self.assertIs(told == 0, tie in tree)
                if told < 0:
                    below.append((told, tie))
            self.assertEqual(under(web, tree, order), tuple(sorted(tie for _, tie in below)))
            self.assertEqual(under(web, tree, order), walks.under(web, tree, order))
            if below:
                self.assertEqual(most_under(web, tree, order), min(below)[1])
            else:
                self.assertIs(type(raised(most_under, web, tree, order)), CanNot)


class Costs(unittest.TestCase):
    def test_every_tree(self):
        for web, tree, order in trees_and_orders():
            told = potentials(web, tree, order)
            for side in (0, 1):
                wanted = walks.cost(web, tree, order, side)
                self.assertEqual(cost(web, tree, order, side), wanted)
                row = walks.row(web, tree, side)
                ours = [own * (web[side] * number + 1) for own, number in zip(told[side], row)]
                self.assertEqual(sum(ours) + web[side] * sum(told[1 - side]), wanted)

    def test_pairs_of_trees(self):
        for web, order in webs_and_orders()[::4]:
            for side in (0, 1):
                every = walks.trees(web)[::3]
                costs = {tree: walks.cost(web, tree, order, side) for tree in every}
                for tree in every:
                    for other in every:
                        wanted = costs[tree] < costs[other]
                        self.assertIs(is_cheaper(web, tree, other, order, side), wanted)
                        if tree != other and walks.row(web, tree, side) == walks.row(web, other, side):
                            self.assertNotEqual(costs[tree], costs[other])
                            less = walks.shares(tree, order, side) < walks.shares(other, order, side)
                            self.assertIs(less, wanted)

    def test_at_the_bounds(self):
        for web in (FULL, BEYOND):
            tree = tuple(tie for tie in FULL[2] if tie[0] == 0 or tie[1] == 0)
            if web is BEYOND:
                tree = tuple((k // 2, (k + 1) // 2) for k in range(25))
            order = web[2][::-1]
            for side in (0, 1):
                self.assertEqual(cost(web, tree, order, side), walks.cost(web, tree, order, side))
            self.assertEqual(under(web, tree, order), walks.under(web, tree, order))
            self.assertEqual(potentials(web, tree, order), walks.potentials(web, tree, order))


class Balance(unittest.TestCase):
    def test_every_ring(self):
        for web in SMALL:
            for order in walks.orders(web)[:3]:
                for ring in walks.rings(web[0], web[1]):
                    there, back = walks.ring_ties(ring)
                    if not there | back <= set(web[2]):
                        self.assertIs(type(raised(balance, web, order, ring)), Unfit)
                        continue
                    worths = [sum(walks.price(web, order, tie) for tie in ties) for ties in (there, back)]
                    told = balance(web, order, ring)
                    self.assertEqual(told, worths[0] - worths[1])
                    self.assertNotEqual(told, 0)
                    self.assertEqual(balance(web, order, ring[2:] + ring[:2]), told)
                    self.assertEqual(balance(web, order, ring[:1] + ring[:0:-1]), -told)

    def test_the_greatest(self):
        ring = tuple(own for hand in range(5) for own in (hand, hand))
        ties = {(hand, hand) for hand in range(5)}
        wanted = sum(walks.price(FULL, FULL[2], tie) for tie in ties)
        wanted -= sum(walks.price(FULL, FULL[2], ((hand + 1) % 5, hand)) for hand in range(5))
        self.assertEqual(balance(FULL, FULL[2], ring), wanted)


if __name__ == "__main__":
    unittest.main()
