"""[1], [2] and [26]: what is promised over the whole program."""

import ast
import os
import unittest

import eachhandtied
from eachhandtied.crossing import can_cross
from eachhandtied.filled import tree_for
from eachhandtied.handings import is_plan, plan
from eachhandtied.judge import is_so
from eachhandtied.lost import lost_rows
from eachhandtied.nearest import mending, nearest_row
from eachhandtied.partners import all_tight, partners
from eachhandtied.rows import all_rows, is_row
from eachhandtied.texts import read_sheet, sheet_text
from eachhandtied.tight import falls_down, tight_tree
from eachhandtied.worths import best_row
from tests import test_calls, test_calls_judged, test_calls_matched, test_calls_tight, test_calls_told, walks
from tests.test_interface import FUNCTIONS

FOLDER = list(eachhandtied.__path__)[0]
CALLS = [test_calls, test_calls_tight, test_calls_matched, test_calls_told, test_calls_judged]


def trees_of_files():
    """The files of the package and what is written in them."""
    found = {}
    for name in sorted(os.listdir(FOLDER)):
        if name.endswith(".py"):
            with open(os.path.join(FOLDER, name), encoding="utf-8") as told:
                found[name] = ast.parse(told.read())
    return found


class Files(unittest.TestCase):
    def test_nothing_from_outside_is_used(self):
        for name, tree in trees_of_files().items():
            for own in ast.walk(tree):
                self.assertNotIsInstance(own, ast.Import, name)
                if isinstance(own, ast.ImportFrom):
                    home = own.module.split(".")[0]
                    self.assertIn(home, ("eachhandtied", "itertools", "math"), name)
                if isinstance(own, ast.Name):
                    self.assertNotIn(own.id, ("open", "input", "print", "exec", "eval"), name)

    def test_each_function_is_called_as_all_are(self):
        # The calls of these files are held against [2]: lists, names, new lists.
        called = [call for told in CALLS for call, _ in told.CALLS]
        names = {(call.__module__.split(".")[1], call.__name__) for call in called}
        listed = {(file, name) for file, functions in FUNCTIONS.items() for name in functions}
        self.assertEqual(names, listed)


class Overview(unittest.TestCase):
    """[1] (a) to (d), each by other functions than those that are asked."""

    def test_on_small_webs(self):
        for web in walks.some_webs()[::3] + walks.greater_webs()[::8]:
            rows = [all_rows(web, side) for side in (0, 1)]
            self.assertEqual(len(rows[0]), len(rows[1]))
            for side in (0, 1):
                for call in walks.calls(web, side):
                    barred = bool(walks.bars(web, side, call))
                    self.assertIs(is_row(web, side, call), not barred)
                    self.assertIs(is_so(("row", web, side, call)), not barred)
                    if not barred:
                        self.assertEqual(walks.row(web, tree_for(web, side, call), side), call)
                    came = list(call)
                    for less, more in mending(web, side, call):
                        came[less] -= 1
                        came[more] += 1
                    self.assertIn(tuple(came), rows[side])
                    self.assertIn(nearest_row(web, side, call), rows[side])
            for order in walks.orders(web)[::2]:
                self.check(web, order, rows)

    def check(self, web, order, rows):
        """Hold what hangs on an ORDER together."""
        tight = all_tight(web, order)
        self.assertEqual([own[0] for own in partners(web, order)], rows[0])
        self.assertEqual(sorted(own[1] for own in partners(web, order)), rows[1])
        for side in (0, 1):
            self.assertEqual(sorted(tight_tree(web, order, side, row) for row in rows[side]), tight)
            for tree in walks.trees(web)[::7]:
                row = walks.row(web, tree, side)
                self.assertEqual(falls_down(web, order, side, tree)[-1], tight_tree(web, order, side, row))
            best = best_row(web, side, tuple(range(web[side])))
            self.assertIs(is_plan(web, side, best, rows[side][0], plan(web, side, best, rows[side][0])), True)
            for tie in web[2]:
                self.assertLessEqual(set(lost_rows(web, side, tie)), set(rows[side]))
        for tree in tight[:3]:
            self.assertFalse(any(can_cross(web, tree, other) for other in tight[:3]))
            sheet = (web, (tree,), ((0, walks.row(web, tree, 0)), (1, walks.row(web, tree, 1))))
            self.assertEqual(read_sheet(sheet_text(sheet)), sheet)


if __name__ == "__main__":
    unittest.main()
