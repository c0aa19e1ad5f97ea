"""[8]: changed WEBS."""

import unittest
from itertools import permutations

from eachhandtied.changed import exchanged, glued, leaf_more, renamed, row_renamed, tie_more, tree_exchanged
from eachhandtied.rows import all_rows
from eachhandtied.trees import all_trees, many_trees
from eachhandtied.webs import is_web
from tests import walks

HOUSE = (3, 3, ((0, 0), (0, 1), (1, 0), (1, 1), (2, 1), (2, 2)))
ONE = (1, 1, ((0, 0),))
MIXED = (2, 3, ((0, 0), (0, 2), (1, 0), (1, 1)))


class Exchanged(unittest.TestCase):
    def test_webs_trees_and_rows(self):
        for web in walks.some_webs():
            told = exchanged(web)
            self.assertEqual(told, (web[1], web[0], tuple(sorted((task, hand) for hand, task in web[2]))))
            self.assertEqual(exchanged(told), web)
            self.assertTrue(is_web(told))
            turned = [tree_exchanged(web, tree) for tree in walks.trees(web)]
            self.assertEqual(sorted(turned), walks.trees(told))
            for side in (0, 1):
                self.assertEqual(all_rows(told, 1 - side), all_rows(web, side))
            for tree, other in zip(walks.trees(web), turned):
                self.assertEqual(tree_exchanged(told, other), tree)
                self.assertEqual(walks.row(web, tree, 0), walks.row(told, other, 1))


class Renamed(unittest.TestCase):
    def test_names_and_their_way_back(self):
        for web in [own for own in walks.some_webs() if own[0] + own[1] < 6] + [HOUSE]:
            for hands in permutations(range(web[0])):
                for tasks in permutations(range(web[1])):
                    told = renamed(web, hands, tasks)
                    self.assertTrue(is_web(told))
                    wanted = sorted((hands[hand], tasks[task]) for hand, task in web[2])
                    self.assertEqual(told, (web[0], web[1], tuple(wanted)))
                    back = [tuple(map(names.index, range(len(names)))) for names in (hands, tasks)]
                    self.assertEqual(renamed(told, *back), web)
                    for side, names in ((0, hands), (1, tasks)):
                        rows = [row_renamed(web, side, row, names) for row in walks.rows(web, side)]
                        self.assertEqual(sorted(rows), walks.rows(told, side))

    def test_where_the_numbers_go(self):
        self.assertEqual(row_renamed(MIXED, 1, (1, 0, 0), (2, 0, 1)), (0, 0, 1))
        row, names = (0, 0, 0, 0, 1, 2, 3, 0, 0, 0, 0, 0), (3, 1, 2, 0, 11, 5, 6, 7, 8, 9, 10, 4)
        web = (12, 5, tuple((hand, task) for hand in range(12) for task in range(5)))
        with self.assertRaises(ValueError):
            row_renamed(web, 0, row, names)
        row = (0, 0, 0, 0, 1, 0, 3, 0, 0, 0, 0, 0)
        self.assertEqual(row_renamed(web, 0, row, names), (0, 0, 0, 0, 0, 0, 3, 0, 0, 0, 0, 1))


class Glued(unittest.TestCase):
    def test_every_pair_of_places(self):
        for web in (ONE, MIXED, HOUSE, (2, 2, ((0, 0), (0, 1), (1, 0), (1, 1)))):
            for other in (ONE, MIXED, (3, 1, ((0, 0), (1, 0), (2, 0))), HOUSE):
                for side in (0, 1):
                    for place in range(web[side]):
                        for goal in range(other[side]):
                            self.glue(web, (side, place), other, (side, goal))

    def glue(self, web, place, other, goal):
        told = glued(web, place, other, goal)
        self.assertTrue(is_web(told))
        self.assertEqual(told[place[0]], web[place[0]] + other[place[0]] - 1)
        self.assertEqual(told[1 - place[0]], web[1 - place[0]] + other[1 - place[0]])
        names = {}
        for side in (0, 1):
            fresh = [own for own in range(other[side]) if (side, own) != goal]
            for at, own in enumerate(fresh):
                names[side, own] = web[side] + at
        names[goal] = place[1]
        moved = [(names[0, hand], names[1, task]) for hand, task in other[2]]
        self.assertEqual(told[2], tuple(sorted(web[2] + tuple(moved))))
        self.assertEqual(many_trees(told), many_trees(web) * many_trees(other))
        for side in (0, 1):
            self.assertEqual(len(all_rows(told, side)), len(all_rows(web, side)) * len(all_rows(other, side)))
        if many_trees(told) <= 12:
            wanted = []
            for tree in walks.trees(web):
                for behind in walks.trees(other):
                    wanted.append(tuple(sorted(tree + tuple((names[0, h], names[1, t]) for h, t in behind))))
            self.assertEqual(all_trees(told), sorted(wanted))

    def test_what_is_glued_may_be_glued_again(self):
        web = (12, 5, tuple((hand, task) for hand in range(12) for task in range(5)))
        told = glued(glued(web, (0, 11), web, (0, 0)), (1, 9), web, (1, 4))
        self.assertEqual((told[0], told[1], len(told[2])), (35, 14, 180))
        self.assertEqual(many_trees(told), many_trees(web) ** 3)


class More(unittest.TestCase):
    def test_a_tie_more(self):
        for web in walks.some_webs():
            for hand in range(web[0]):
                for task in range(web[1]):
                    if (hand, task) in web[2]:
                        continue
                    told = tie_more(web, (hand, task))
                    self.assertEqual(told, (web[0], web[1], tuple(sorted(web[2] + ((hand, task),)))))
                    for side in (0, 1):
                        self.assertLessEqual(set(all_rows(web, side)), set(all_rows(told, side)))

    def test_a_leaf_more(self):
        for web in walks.some_webs():
            for side in (0, 1):
                for number in range(web[side]):
                    told = leaf_more(web, (side, number))
                    self.assertTrue(is_web(told))
                    tie = (number, web[1]) if side == 0 else (web[0], number)
                    self.assertEqual(told[2], tuple(sorted(web[2] + (tie,))))
                    self.assertEqual((told[side], told[1 - side]), (web[side], web[1 - side] + 1))
                    for own in (0, 1):
                        self.assertEqual(len(all_rows(told, own)), len(all_rows(web, own)))

    def test_beyond_the_bounds_by_leaves(self):
        web = ONE
        for many in range(30):
            web = leaf_more(leaf_more(web, (0, many)), (1, many + 1))
        self.assertEqual(web[:2], (31, 31))
        self.assertEqual(all_rows(web, 0), [(1,) * 30 + (0,)])


if __name__ == "__main__":
    unittest.main()
