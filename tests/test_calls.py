"""[2]: what holds for the calls of all functions: lists for tuples, names,
arguments left as they are, new lists, Unfit ahead of all other errors."""

import unittest

from eachhandtied import bars, changed, rows, signs, trees, webs
from eachhandtied.errors import CanNot, NoPlace, NoTie, TooMany, Unfit
from tests.call_checks import CallChecks
from tests.wrong import FULL, HOUSE, STAR, TREE, raised
from tests.wrong import NO_CALLS, NO_LOTS, NO_NAMES, NO_NUMBERS, NO_PAIRS, NO_ROWS, NO_SIDES, NO_TREES, NO_WEBS


WRONG = {
    "web": NO_WEBS,
    "side": NO_SIDES,
    "tree": NO_TREES,
    "lot": NO_LOTS,
    "place": NO_PAIRS,
    "goal": NO_PAIRS + [(1, 0)],
    "tie": NO_PAIRS,
    "put": NO_PAIRS,
    "out": NO_PAIRS,
    "call": NO_CALLS,
    "row": NO_ROWS,
    "hands": NO_NAMES,
    "tasks": NO_NAMES,
    "names": NO_NAMES,
    ("way", "other"): NO_PAIRS,
    ("glued", "other"): NO_WEBS,
    ("least_full", "number"): NO_NUMBERS,
}

# A call of each function, with all its arguments in their order.
CALLS = [
    (signs.words, {"text": "a b\nc"}),
    (signs.text_of, {"words": (("a", 0), ("b", 2))}),
    (signs.number_of, {"word": "-12"}),
    (signs.word_of, {"number": -12}),
    (webs.is_web, {"thing": HOUSE}),
    (webs.is_place, {"web": HOUSE, "thing": (0, 2)}),
    (webs.is_tie, {"web": HOUSE, "thing": (2, 1)}),
    (webs.is_lot, {"web": HOUSE, "side": 0, "thing": (0, 2)}),
    (webs.hangs, {"many": 2, "number": 1, "ties": ((1, 0), (0, 0), (1, 0))}),
    (webs.sizes, {"web": HOUSE}),
    (webs.ties_at, {"web": HOUSE, "place": (1, 1)}),
    (webs.neighbours_of, {"web": HOUSE, "side": 0, "lot": (0, 2)}),
    (webs.pieces, {"web": HOUSE, "side": 1, "lot": (0, 2)}),
    (webs.rank, {"web": HOUSE, "side": 1, "lot": (0, 2)}),
    (webs.is_needed, {"web": HOUSE, "tie": (2, 2)}),
    (trees.is_tree, {"web": HOUSE, "thing": TREE}),
    (trees.some_tree, {"web": HOUSE}),
    (trees.many_trees, {"web": HOUSE}),
    (trees.all_trees, {"web": HOUSE}),
    (trees.way, {"web": HOUSE, "tree": TREE, "place": (0, 1), "other": (1, 2)}),
    (trees.part, {"web": HOUSE, "tree": TREE, "tie": (0, 1), "side": 1}),
    (trees.closes, {"web": HOUSE, "tree": TREE, "tie": (1, 0)}),
    (trees.changed, {"web": HOUSE, "tree": TREE, "put": (1, 0), "out": (0, 1)}),
    (trees.ends_of, {"web": HOUSE, "tree": TREE}),
    (rows.calls_together, {"web": HOUSE, "side": 0}),
    (rows.how_many_calls, {"web": HOUSE, "side": 0}),
    (rows.is_call, {"web": HOUSE, "side": 0, "thing": (0, 2, 0)}),
    (rows.row_of, {"web": HOUSE, "tree": TREE, "side": 1}),
    (rows.is_row, {"web": HOUSE, "side": 0, "thing": (1, 0, 1)}),
    (rows.all_rows, {"web": HOUSE, "side": 0}),
    (rows.trees_with, {"web": HOUSE, "side": 0, "row": (1, 0, 1)}),
    (changed.exchanged, {"web": HOUSE}),
    (changed.tree_exchanged, {"web": HOUSE, "tree": TREE}),
    (changed.renamed, {"web": HOUSE, "hands": (1, 2, 0), "tasks": (0, 2, 1)}),
    (changed.row_renamed, {"web": HOUSE, "side": 0, "row": (1, 0, 1), "names": (1, 2, 0)}),
    (changed.glued, {"web": HOUSE, "place": (0, 0), "other": FULL, "goal": (0, 4)}),
    (changed.tie_more, {"web": HOUSE, "tie": (2, 0)}),
    (changed.leaf_more, {"web": HOUSE, "place": (0, 1)}),
    (bars.is_bar, {"web": HOUSE, "side": 0, "call": (2, 0, 0), "thing": (0,)}),
    (bars.bar, {"web": HOUSE, "side": 0, "call": (2, 0, 0)}),
    (bars.least_bar, {"web": HOUSE, "side": 0, "call": (2, 0, 0)}),
    (bars.room, {"web": HOUSE, "side": 0, "call": (2, 0, 0), "lot": (0, 2)}),
    (bars.full_lots, {"web": HOUSE, "side": 0, "row": (1, 0, 1)}),
    (bars.least_full, {"web": HOUSE, "side": 0, "row": (1, 0, 1), "number": 1}),
    (bars.most_more, {"web": HOUSE, "side": 0, "row": (1, 0, 1), "lot": (1,)}),
]
LISTS = {"words", "all_trees", "all_rows", "trees_with", "full_lots"}


class Calls(CallChecks, unittest.TestCase):
    calls, wrong, lists = CALLS, WRONG, LISTS


class UnfitArguments(unittest.TestCase):
    def test_all_unfit_ones_are_ahead(self):
        for call, rest in (
            (webs.ties_at, (None, (9, 9))),
            (trees.way, (HOUSE, TREE, (0, 9), None)),
            (trees.way, (HOUSE, TREE[1:], (0, 9), (0, 0))),
            (trees.part, (HOUSE, TREE, (0, 9), 2)),
            (trees.part, (HOUSE, TREE, (1, 0), 2)),
            (trees.closes, (HOUSE, TREE[1:], (0, 9))),
            (trees.changed, (HOUSE, TREE, (9, 9), None)),
            (trees.changed, (HOUSE, TREE, (0, 0), None)),
            (rows.trees_with, (FULL, 0, (1,) * 12)),
            (changed.glued, (HOUSE, (0, 9), None, (0, 0))),
            (changed.glued, (HOUSE, (0, 9), HOUSE, (0, True))),
            (changed.glued, (HOUSE, (2, 0), HOUSE, (1, 0))),
            (changed.tie_more, (None, (0, 9))),
            (bars.bar, (HOUSE, 2, (1, 0, 1))),
            (bars.least_full, (HOUSE, 0, (2, 0, 0), 9)),
            (bars.full_lots, (STAR, 0, (1,) + (0,) * 11)),
        ):
            with self.subTest(call=call.__name__, rest=rest):
                self.assertIsInstance(raised(call, *rest), Unfit)

    def test_things_are_asked_last(self):
        for thing in (None, "x", 3, (), [[]], (1, (None, True))):
            for call, rest in (
                (webs.is_place, (None,)),
                (trees.is_tree, ((1, 1, ()),)),
                (rows.is_call, (HOUSE, 2)),
                (rows.is_call, (None, 0)),
                (rows.is_row, (HOUSE, True)),
                (bars.is_bar, (HOUSE, 0, (1, 1))),
                (bars.is_bar, (HOUSE, 3, (2, 0, 0))),
            ):
                self.assertIsInstance(raised(call, *rest, thing), Unfit)


class LaterErrors(unittest.TestCase):
    def told(self, error, kind, **worths):
        self.assertIs(type(error), kind)
        self.assertEqual(repr(vars(error)), repr(worths))

    def test_no_place(self):
        for wrong in ((0, 3), (1, -1), (2, 0), (-1, 0), (0, 10**6)):
            told = list(wrong)
            self.told(raised(webs.ties_at, HOUSE, told), NoPlace, place=wrong)
            self.told(raised(trees.way, HOUSE, TREE, told, (0, 9)), NoPlace, place=wrong)
            self.told(raised(trees.way, HOUSE, TREE, (0, 0), told), NoPlace, place=wrong)
            self.told(raised(changed.leaf_more, HOUSE, told), NoPlace, place=wrong)
            self.told(raised(changed.glued, HOUSE, told, HOUSE, (wrong[0], 9)), NoPlace, place=wrong)
            if wrong[0] in (0, 1):
                self.told(raised(changed.glued, HOUSE, (wrong[0], 0), HOUSE, told), NoPlace, place=wrong)
                number, row = wrong[1], ((1, 0, 1), (0, 2, 0))[wrong[0]]
                self.told(raised(bars.least_full, HOUSE, wrong[0], row, number), NoPlace, place=wrong)

    def test_no_tie(self):
        for wrong in ((0, 2), (2, 0), (3, 3), (0, -2), (-1, 0)):
            told = list(wrong)
            self.told(raised(webs.is_needed, HOUSE, told), NoTie, tie=wrong)
            self.told(raised(trees.part, HOUSE, TREE, told, 0), NoTie, tie=wrong)
            self.told(raised(trees.closes, HOUSE, TREE, told), NoTie, tie=wrong)
            self.told(raised(trees.changed, HOUSE, TREE, told, (9, 9)), NoTie, tie=wrong)
            self.told(raised(trees.changed, HOUSE, TREE, (0, 0), told), NoTie, tie=wrong)
        for wrong in ((3, 0), (0, 3), (-1, 0), (0, -1), (10**6, 10**6)):
            self.told(raised(changed.tie_more, HOUSE, list(wrong)), NoTie, tie=wrong)

    def test_can_not(self):
        self.told(raised(trees.part, HOUSE, TREE, (1, 0), 1), CanNot)
        for tie in TREE:
            self.told(raised(trees.closes, HOUSE, TREE, tie), CanNot)
            self.told(raised(trees.changed, HOUSE, TREE, tie, tie), CanNot)
            self.told(raised(trees.changed, HOUSE, TREE, tie, (1, 0)), CanNot)
        self.told(raised(trees.changed, HOUSE, TREE, (1, 0), (1, 0)), CanNot)
        self.told(raised(trees.changed, HOUSE, TREE, (1, 0), (2, 2)), CanNot)
        for tie in HOUSE[2]:
            self.told(raised(changed.tie_more, HOUSE, tie), CanNot)
        for call in (bars.bar, bars.least_bar):
            self.told(raised(call, HOUSE, 0, (1, 0, 1)), CanNot)
            self.told(raised(call, HOUSE, 1, (0, 2, 0)), CanNot)

    def test_too_many(self):
        self.told(raised(trees.all_trees, FULL), TooMany)
        self.told(raised(rows.trees_with, FULL, 1, (11, 0, 0, 0, 0)), TooMany)
        self.told(raised(rows.all_rows, (6, 10, tuple((k, j) for k in range(6) for j in range(10))), 1), TooMany)
        self.told(raised(bars.full_lots, STAR, 0, (0,) * 12), TooMany)


if __name__ == "__main__":
    unittest.main()
