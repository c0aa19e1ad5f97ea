"""[2] and [3] for the calls of [18] to [21]: lists, names, wrong arguments."""

import unittest

from eachhandtied import counts, nearest, numbered, texts
from eachhandtied.errors import CanNot, NoPlace, TooMany, Unfit
from tests.call_checks import CallChecks
from tests.wrong import FULL, HOUSE, TREE, raised
from tests.wrong import NO_BEGINNINGS, NO_CALLS, NO_LIMITS, NO_LOTS, NO_NATURALS, NO_NUMBERS, NO_PAIRS, NO_ROWS
from tests.wrong import NO_SHEETS, NO_SIDES, NO_TREES, NO_WEBS

NO_SIZES = NO_NUMBERS + [0, -1, 1001, 10**6]
SHEET = (HOUSE, (TREE,), ((0, (2, 0, 0)), (1, (1, 1, 0))))

WRONG = {
    "web": NO_WEBS,
    "side": NO_SIDES,
    "tree": NO_TREES,
    "call": NO_CALLS,
    "row": NO_ROWS,
    "lot": NO_LOTS,
    "place": NO_PAIRS,
    "limits": NO_LIMITS,
    "numbers": NO_BEGINNINGS,
    "sheet": NO_SHEETS,
    "number": NO_SIZES,
    "many": NO_SIZES,
    ("many_with", "number"): NO_NUMBERS,
    ("row_at", "number"): NO_NATURALS,
    ("rows_from", "many"): NO_NATURALS,
    ("whole_web", "many"): NO_SIZES + [13, 31],
    ("whole_web", "number"): NO_SIZES + [13, 31],
    ("ring_web", "many"): NO_SIZES + [1, 13],
    ("ring_rows", "many"): NO_SIZES + [1],
}

# A call of each function, with all its arguments in their order.
CALLS = [
    (nearest.how_far, {"web": HOUSE, "side": 0, "call": (2, 0, 0)}),
    (nearest.excess, {"web": HOUSE, "side": 0, "call": (2, 0, 0), "lot": (0, 1)}),
    (nearest.nearest_row, {"web": HOUSE, "side": 0, "call": (2, 0, 0)}),
    (nearest.is_nearest, {"web": HOUSE, "side": 0, "call": (2, 0, 0), "thing": (1, 0, 1)}),
    (nearest.all_nearest, {"web": HOUSE, "side": 0, "call": (0, 0, 2)}),
    (nearest.why_far, {"web": HOUSE, "side": 0, "call": (2, 0, 0)}),
    (nearest.is_why_far, {"web": HOUSE, "side": 0, "call": (2, 0, 0), "thing": (0, 1)}),
    (nearest.mending, {"web": HOUSE, "side": 0, "call": (2, 0, 0)}),
    (nearest.is_mending, {"web": HOUSE, "side": 0, "call": (2, 0, 0), "thing": ((0, 2),)}),
    (counts.many_rows, {"web": HOUSE, "side": 0}),
    (counts.many_with, {"web": HOUSE, "place": (0, 1), "number": 0}),
    (counts.counts_at, {"web": HOUSE, "place": (1, 1)}),
    (counts.most_at, {"web": HOUSE, "place": (1, 1)}),
    (counts.least_at, {"web": HOUSE, "place": (0, 2)}),
    (counts.many_below, {"web": HOUSE, "side": 1, "limits": (0, 2, 0)}),
    (counts.many_above, {"web": HOUSE, "side": 1, "limits": (0, 1, 0)}),
    (counts.whole_web, {"many": 2, "number": 3}),
    (counts.whole_rows, {"many": 2, "number": 3}),
    (counts.whole_trees, {"many": 2, "number": 3}),
    (counts.ring_web, {"many": 3}),
    (counts.ring_rows, {"many": 3}),
    (numbered.can_begin, {"web": HOUSE, "side": 0, "numbers": (1, 0)}),
    (numbered.next_span, {"web": HOUSE, "side": 0, "numbers": (1,)}),
    (numbered.row_at, {"web": HOUSE, "side": 0, "number": 1}),
    (numbered.row_number, {"web": HOUSE, "side": 0, "row": (1, 0, 1)}),
    (numbered.first_row, {"web": HOUSE, "side": 0}),
    (numbered.last_row, {"web": HOUSE, "side": 0}),
    (numbered.next_row, {"web": HOUSE, "side": 0, "row": (0, 1, 1)}),
    (numbered.row_ahead, {"web": HOUSE, "side": 0, "row": (1, 0, 1)}),
    (numbered.rows_from, {"web": HOUSE, "side": 0, "row": (0, 1, 1), "many": 2}),
    (texts.is_sheet, {"thing": SHEET}),
    (texts.sheet_text, {"sheet": SHEET}),
    (texts.read_sheet, {"text": texts.sheet_text(SHEET)}),
    (texts.web_text, {"web": HOUSE}),
    (texts.read_web, {"text": texts.sheet_text(SHEET)}),
    (texts.picture, {"web": HOUSE, "tree": TREE}),
    (texts.read_picture, {"text": texts.picture(HOUSE, TREE)}),
]
LISTS = {"all_nearest", "rows_from"}


class Calls(CallChecks, unittest.TestCase):
    calls, wrong, lists = CALLS, WRONG, LISTS

    def test_unfit_ones_are_ahead_of_all_other_errors(self):
        for call, rest in (
            (counts.many_with, (HOUSE, (0, 9), None)),
            (counts.many_with, (None, (0, 9), 0)),
            (counts.counts_at, (None, (0, 9))),
            (counts.most_at, ((1, 1, ()), (0, 9))),
            (numbered.next_span, (HOUSE, 0, (9, -1))),
            (numbered.next_span, (HOUSE, 2, (9, 9))),
            (numbered.rows_from, (HOUSE, 0, (2, 0, 0), 201)),
            (numbered.rows_from, (HOUSE, 0, (1, 0, 1), None)),
            (numbered.row_at, (HOUSE, 2, 9)),
            (numbered.next_row, (HOUSE, 0, (2, 0, 0))),
            (nearest.why_far, (HOUSE, 2, (1, 0, 1))),
        ):
            with self.subTest(call=call.__name__, rest=rest):
                self.assertIs(type(raised(call, *rest)), Unfit)
        for call, rest, error in (
            (counts.many_with, (HOUSE, (0, 9), 0), NoPlace),
            (numbered.next_span, (HOUSE, 0, (9, 9)), CanNot),
            (numbered.rows_from, (HOUSE, 0, (1, 0, 1), 201), TooMany),
            (nearest.why_far, (HOUSE, 0, (1, 0, 1)), CanNot),
        ):
            self.assertIs(type(raised(call, *rest)), error)

    def test_lists_within_results_are_none(self):
        for told in (numbered.rows_from(FULL, 1, [0, 0, 0, 0, 11], 3), nearest.all_nearest(FULL, 0, [4] + [0] * 11)):
            self.assertTrue(all(isinstance(row, tuple) for row in told))


if __name__ == "__main__":
    unittest.main()
