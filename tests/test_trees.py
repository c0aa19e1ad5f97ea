"""[6]: TREES, against a plain walk over small WEBS and by the guarantees."""

import unittest
from itertools import combinations, permutations

from eachhandtied.changed import glued
from eachhandtied.errors import CanNot, TooMany
from eachhandtied.trees import all_trees, changed, closes, ends_of, is_tree, many_trees, part, some_tree, way
from tests import walks
from tests.wrong import raised
from tests.walks import listed

ONE = (1, 1, ((0, 0),))
HOUSE = (3, 3, ((0, 0), (0, 1), (1, 0), (1, 1), (2, 1), (2, 2)))
TREE = ((0, 0), (0, 1), (1, 1), (2, 1), (2, 2))


def whole(many, number):
    return many, number, tuple((hand, task) for hand in range(many) for task in range(number))


def ring(many):
    return many, many, tuple(sorted({(k, k) for k in range(many)} | {(k, (k + 1) % many) for k in range(many)}))


def places(web):
    return [(side, number) for side in (0, 1) for number in range(web[side])]


def ends(tie):
    return {(0, tie[0]), (1, tie[1])}


def flood(ties, start):
    """All PLACES that hang together with start by ties."""
    seen, size = {start}, 0
    while len(seen) > size:
        size = len(seen)
        for tie in ties:
            if ends(tie) & seen:
                seen |= ends(tie)
    return seen


class IsTree(unittest.TestCase):
    def test_every_set_of_ties(self):
        for web in walks.some_webs():
            wanted = walks.trees(web)
            for size in range(len(web[2]) + 1):
                for thing in combinations(web[2], size):
                    self.assertIs(is_tree(web, thing), thing in wanted)

    def test_a_tree_in_another_form_is_none(self):
        wrong = [
            list(TREE),
            listed(TREE),
            TREE[:4] + ([2, 2],),
            TREE[:4] + (TREE[3],),
            TREE[::-1],
            TREE + TREE,
            TREE[:4] + ((2, 2, 2),),
            ((0, False),) + TREE[1:],
            ((0, 0), (0, 1), (1, 1), (2, 0), (2, 2)),
            (None,) * 5,
            "trees",
            5,
            None,
            (((((),),),),),
        ]
        for thing in wrong:
            with self.subTest(thing=thing):
                self.assertIs(is_tree(HOUSE, thing), False)
        self.assertIs(is_tree(HOUSE, ((0, 0),) * 10**5), False)
        self.assertIs(is_tree(ONE, ((0, 0),)), True)
        self.assertIs(is_tree(ONE, ()), False)


class AllTrees(unittest.TestCase):
    def test_against_a_walk(self):
        for web in walks.small_webs() + walks.greater_webs():
            wanted = walks.trees(web)
            self.assertEqual(many_trees(web), len(wanted))
            self.assertEqual(all_trees(web), wanted)
            self.assertIn(some_tree(web), wanted)

    def test_known_numbers(self):
        for many in range(1, 13):
            for number in range(1, 13):
                if many * number <= 60:
                    web = whole(many, number)
                    self.assertEqual(many_trees(web), many ** (number - 1) * number ** (many - 1))
                    self.assertTrue(is_tree(web, some_tree(web)))
        self.assertEqual([many_trees(ring(many)) for many in (2, 3, 12)], [4, 6, 24])

    def test_at_the_bounds(self):
        web = (12, 12, tuple(sorted((hand, (hand + more) % 12) for hand in range(12) for more in range(5))))
        self.assertGreater(many_trees(web), 10**12)
        self.assertTrue(is_tree(web, some_tree(web)))
        self.assertIsInstance(raised(all_trees, web), TooMany)
        path = (12, 12, tuple((k // 2, (k + 1) // 2) for k in range(23)))
        self.assertEqual(all_trees(path), [path[2]])

    def test_two_thousand_are_told_and_no_more(self):
        web = glued(glued(ring(5), (0, 0), ring(5), (0, 0)), (1, 0), ring(10), (1, 0))
        self.assertEqual(many_trees(web), 2000)
        every = all_trees(web)
        self.assertEqual((len(every), every), (2000, sorted(set(every))))
        self.assertTrue(all(is_tree(web, tree) for tree in every))
        more = (12, 12, tuple(sorted(ring(12)[2] + ((0, 6),))))
        self.assertEqual(many_trees(glued(more, (0, 0), whole(2, 3), (0, 0))), 2004)
        self.assertIsInstance(raised(all_trees, glued(more, (0, 0), whole(2, 3), (0, 0))), TooMany)


class Ways(unittest.TestCase):
    def test_every_way_of_small_trees(self):
        for web in walks.some_webs():
            for tree in walks.trees(web)[:6]:
                for place in places(web):
                    self.assertEqual(way(web, tree, place, place), ())
                for place, other in permutations(places(web), 2):
                    told = way(web, tree, place, other)
                    self.assertEqual(len(set(told)), len(told))
                    at = place
                    for tie in told:
                        self.assertIn(tie, tree)
                        self.assertIn(at, ends(tie))
                        (at,) = ends(tie) - {at}
                    self.assertEqual(at, other)
                    self.assertEqual(way(web, tree, other, place), told[::-1])

    def test_parts(self):
        for web in walks.some_webs():
            for tree in walks.trees(web)[:6]:
                for tie in tree:
                    left = [own for own in tree if own != tie]
                    told = [part(web, tree, tie, side) for side in (0, 1)]
                    for side in (0, 1):
                        self.assertEqual(told[side], tuple(sorted(flood(left, (side, tie[side])))))
                    self.assertEqual(sorted(told[0] + told[1]), places(web))

    def test_what_closes_and_changes(self):
        for web in walks.some_webs():
            every = walks.trees(web)
            for tree in every[:6]:
                for put in web[2]:
                    if put in tree:
                        continue
                    round_it = closes(web, tree, put)
                    self.assertEqual(round_it, way(web, tree, (0, put[0]), (1, put[1])))
                    for out in web[2]:
                        made = tuple(sorted(set(tree) - {out} | {put}))
                        good = out in tree and made in every
                        self.assertIs(out in round_it, good)
                        if good:
                            self.assertEqual(changed(web, tree, put, out), made)
                            self.assertEqual(changed(web, made, out, put), tree)
                        else:
                            self.assertIsInstance(raised(changed, web, tree, put, out), CanNot)

    def test_ends(self):
        for web in walks.some_webs():
            for tree in walks.trees(web)[:6]:
                wanted = [own for own in places(web) if sum(own in ends(tie) for tie in tree) == 1]
                self.assertEqual(ends_of(web, tree), tuple(wanted))
                self.assertGreaterEqual(len(wanted), 2)

    def test_a_long_tree(self):
        path = (400, 400, tuple((k // 2, (k + 1) // 2) for k in range(799)))
        self.assertEqual(way(path, path[2], (1, 0), (0, 399)), path[2])
        self.assertEqual(ends_of(path, path[2]), ((0, 399), (1, 0)))
        self.assertEqual([len(part(path, path[2], (200, 200), side)) for side in (0, 1)], [399, 401])


if __name__ == "__main__":
    unittest.main()
