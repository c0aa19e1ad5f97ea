"""[16]: TIGHT TREES beside one another, against a plain walk over small WEBS."""

import unittest

from eachhandtied.errors import CanNot, NoTie, Unfit
from eachhandtied.handings import can_hand, handed
from eachhandtied.neighbours import all_neighbours, handed_over, is_neighbour, is_walk, lone_ties, over, walked
from eachhandtied.tight import is_tight, tight_tree
from tests import walks
from tests.walks import listed
from tests.wrong import BEYOND, BROAD, FULL, raised

SMALL = walks.some_webs()
WEB = (2, 3, ((0, 0), (0, 1), (0, 2), (1, 0), (1, 1), (1, 2)))
BY = WEB[2]
STAR, MIDDLE, LAST = ((0, 0), (0, 1), (0, 2), (1, 0)), ((0, 1), (0, 2), (1, 0), (1, 1)), ((0, 2), (1, 0), (1, 1), (1, 2))


def tights_of(webs, step=1):
    """The triples of a WEB, an ORDER, and all TIGHT TREES."""
    pairs = [(web, order) for web in webs for order in walks.orders(web)][::step]
    return [(web, order, sorted(walks.tights(web, order, 0).values())) for web, order in pairs]


def beside(tree, other):
    return len(set(tree) - set(other)) == 1


class Neighbours(unittest.TestCase):
    def test_every_tight_tree(self):
        for web, order, tights in tights_of(SMALL) + tights_of(walks.greater_webs(), 9):
            for tree in tights:
                wanted = []
                for tie in tree:
                    near = [own for own in tights if set(tree) - set(own) == {tie}]
                    self.assertLessEqual(len(near), 1)
                    wanted.extend((tie, own) for own in near)
                    if near:
                        self.assertEqual(over(web, order, tree, tie), near[0])
                        put = (set(near[0]) - set(tree)).pop()
                        pairs = tuple((tie[side], put[side]) for side in (0, 1))
                        self.assertEqual(handed_over(web, order, tree, tie), pairs)
                        for side in (0, 1):
                            row = walks.row(web, tree, side)
                            self.assertIs(can_hand(web, side, row, pairs[side]), True)
                            after = walks.row(web, near[0], side)
                            self.assertEqual(handed(web, side, row, pairs[side]), after)
                    else:
                        self.assertIs(type(raised(over, web, order, tree, tie)), CanNot)
                        self.assertIs(type(raised(handed_over, web, order, tree, tie)), CanNot)
                    ours, theirs = walks.part(tree, tie, 0), walks.part(tree, tie, 1)
                    free = [own for own in web[2] if (0, own[0]) in theirs and (1, own[1]) in ours]
                    self.assertIs(bool(near), bool(free))
                self.assertEqual(all_neighbours(web, order, tree), wanted)
                lone = tuple(tie for tie in tree if tie not in dict(wanted))
                self.assertEqual(lone_ties(web, order, tree), lone)
                for other in tights:
                    self.assertIs(is_neighbour(web, order, tree, other), beside(tree, other))

    def test_other_trees_are_no_neighbours(self):
        for web, order, tights in tights_of(SMALL, 3):
            for tree in tights[:2]:
                for other in walks.trees(web):
                    wanted = other in tights and beside(tree, other)
                    self.assertIs(is_neighbour(web, order, tree, other), wanted)

    def test_bent_things(self):
        self.assertIs(is_neighbour(WEB, BY, STAR, MIDDLE), True)
        for thing in (
            None,
            1,
            "tree",
            (),
            [],
            list(MIDDLE),
            listed(MIDDLE),
            MIDDLE[::-1],
            MIDDLE[:3],
            MIDDLE + MIDDLE[:1],
            STAR,
            LAST,
            BY,
            ((False, 1),) + MIDDLE[1:],
            ((0, True),) + MIDDLE[1:],
            MIDDLE[:3] + ([1, 1],),
            MIDDLE[:3] + (None,),
            MIDDLE[:3] + ((1, 1, 0),),
            (MIDDLE,),
            MIDDLE * 10**4,
        ):
            self.assertIs(is_neighbour(WEB, BY, STAR, thing), False)

    def test_refusals(self):
        left = ((0, 0), (0, 1), (0, 2), (1, 1))
        self.assertFalse(is_tight(WEB, BY, left))
        for tie in ((1, 0), (1, 2), (2, 0), (0, -1), (10**6 + 1, 0)):
            for call in (over, handed_over):
                # That it is none of the TREE is told ahead of all that is not TIGHT.
                error = raised(call, WEB, BY, left, list(tie))
                self.assertEqual((type(error), vars(error)), (NoTie, {"tie": tie}))
                self.assertIs(type(raised(call, WEB, BY, left[1:], tie)), Unfit)
                self.assertIs(type(raised(call, WEB, BY[1:], left, tie)), Unfit)
        for tie in left:
            for call in (over, handed_over):
                self.assertIs(type(raised(call, WEB, BY, left, tie)), CanNot)
        for call, rest in (
            (all_neighbours, (left,)),
            (lone_ties, (left,)),
            (is_neighbour, (left, STAR)),
            (is_neighbour, (left, None)),
            (walked, (left, STAR)),
            (walked, (STAR, left)),
            (walked, (left, left)),
            (is_walk, (left, STAR, None)),
            (is_walk, (STAR, left, ())),
            (is_walk, (left, left, (left,))),
        ):
            error = raised(call, WEB, BY, *rest)
            self.assertEqual((type(error), vars(error)), (CanNot, {}))
            self.assertIs(type(raised(call, WEB, BY[:5], *rest)), Unfit)
        for call, rest in ((walked, (left, left[1:])), (is_walk, (left, left[1:], ())), (is_neighbour, (left[1:], STAR))):
            self.assertIs(type(raised(call, WEB, BY, *rest)), Unfit)


class Walks(unittest.TestCase):
    def good(self, web, tights, tree, other, told):
        self.assertIsInstance(told, tuple)
        self.assertEqual((told[0], told[-1]), (tree, other))
        self.assertTrue(all(own in tights for own in told))
        self.assertTrue(all(beside(one, own) for one, own in zip(told, told[1:])))

    def test_each_to_each(self):
        for web, order, tights in tights_of(SMALL):
            for tree in tights:
                for other in tights:
                    told = walked(web, order, tree, other)
                    self.good(web, tights, tree, other, told)
                    self.assertIs(is_walk(web, order, tree, other, told), True)
                    self.assertEqual(len(told) == 1, tree == other)

    def test_greater_webs(self):
        for web, order, tights in tights_of(walks.greater_webs(), 7):
            for tree in tights[::5]:
                for other in tights[::4]:
                    told = walked(web, order, tree, other)
                    self.good(web, tights, tree, other, told)
                    self.assertIs(is_walk(web, order, tree, other, told), True)

    def test_every_short_tuple(self):
        for web, order, tights in tights_of(SMALL, 11):
            every = walks.trees(web)[:7] + tights[:3]
            tree, other = tights[0], tights[-1]
            for one in every:
                for two in every:
                    for thing in ((one,), (one, two), (tree, one, two), (tree, one, two, other)):
                        wanted = all(own in tights for own in thing)
                        wanted = wanted and thing[0] == tree and thing[-1] == other
                        wanted = wanted and all(beside(own, after) for own, after in zip(thing, thing[1:]))
                        self.assertIs(is_walk(web, order, tree, other, thing), wanted)

    def test_bent_things(self):
        told = (STAR, MIDDLE, LAST)
        self.assertIs(is_walk(WEB, BY, STAR, LAST, told), True)
        self.assertIs(is_walk(WEB, BY, STAR, LAST, told + (MIDDLE, LAST) * 500), True)
        for thing in (
            None,
            3,
            "walk",
            (),
            [],
            list(told),
            listed(told),
            told[::-1],
            told[:2],
            told[1:],
            (STAR, STAR, MIDDLE, LAST),
            (STAR, MIDDLE, MIDDLE, LAST),
            (STAR, MIDDLE, LAST, LAST),
            (STAR, None, LAST),
            (STAR, list(MIDDLE), LAST),
            (STAR, MIDDLE[::-1], LAST),
            (list(STAR), MIDDLE, LAST),
            (STAR, MIDDLE, listed(LAST)),
            (STAR, ((0, True),) + MIDDLE[1:], LAST),
            (((False, 0),) + STAR[1:], MIDDLE, LAST),
            (STAR, ((0, 0), (0, 2), (1, 0), (1, 1)), LAST),
            STAR,
            (told,),
            (0,) * 10**4,
        ):
            self.assertIs(is_walk(WEB, BY, STAR, LAST, thing), False)

    def test_at_the_bounds(self):
        for web, row, goal in (
            (FULL, (4,) + (0,) * 11, (0,) * 11 + (4,)),
            (BROAD, (4, 0, 0, 0, 4, 0, 0, 0, 3, 0, 0, 0), (0, 0, 0, 3, 0, 0, 0, 4, 0, 0, 0, 4)),
            (BEYOND, (4, 0, 0, 0, 4, 0, 0, 0, 4, 0, 0, 0, 0), (0, 3, 0, 0, 0, 3, 0, 0, 3, 0, 0, 3, 0)),
        ):
            for order in walks.orders(web):
                tree, other = tight_tree(web, order, 0, row), tight_tree(web, order, 0, goal)
                told = walked(web, order, tree, other)
                self.assertEqual((told[0], told[-1]), (tree, other))
                self.assertTrue(all(not walks.under(web, own, order) for own in told))
                self.assertTrue(all(beside(one, own) for one, own in zip(told, told[1:])))
                self.assertIs(is_walk(web, order, tree, other, told), True)
                for tie, own in all_neighbours(web, order, tree):
                    self.assertEqual(set(tree) - set(own), {tie})
                    self.assertEqual(walks.under(web, own, order), ())
                    self.assertEqual(over(web, order, tree, tie), own)
                count = len(all_neighbours(web, order, tree)) + len(lone_ties(web, order, tree))
                self.assertEqual(count, web[0] + web[1] - 1)


if __name__ == "__main__":
    unittest.main()
