"""[24]: one judge, against a plain walk over small WEBS."""

import unittest

from eachhandtied.errors import Unfit
from eachhandtied.judge import first_fallen, is_demand, is_paper_against, is_reason_for, is_so, paper_against, reason_for
from eachhandtied.trees import some_tree
from tests import walks
from tests.walks import listed
from tests.wrong import BEYOND, BROAD, FULL, HOUSE, NO_DEMANDS, TREE, raised

UP = HOUSE[2]
# TIGHT by UP; TREE is not.
FIRST = ((0, 0), (0, 1), (1, 0), (2, 1), (2, 2))
STANDING = [
    ("row", HOUSE, 0, (1, 0, 1)),
    ("tight", HOUSE, UP, FIRST),
    ("partner", HOUSE, UP, (1, 0, 1), (1, 1, 0)),
    ("far", HOUSE, 0, (2, 0, 0), 1),
    ("worth", HOUSE, 0, (5, 1, 1), 6),
]
FALLEN = [
    ("row", HOUSE, 0, (2, 0, 0)),
    ("tight", HOUSE, UP, TREE),
    ("partner", HOUSE, UP, (1, 0, 1), (0, 2, 0)),
    ("far", HOUSE, 0, (2, 0, 0), 0),
    ("worth", HOUSE, 0, (5, 1, 1), 5),
]
SMALL = walks.some_webs()[::2] + walks.greater_webs()[::9]


def apart(call, other):
    return sum(abs(own - another) for own, another in zip(call, other)) // 2


def worth_of(row, worths):
    return sum(own * number for own, number in zip(row, worths))


class Judge(unittest.TestCase):
    def check(self, demand, papers, reasons, things):
        """Hold a DEMAND against all PAPERS and REASONS, among things."""
        self.assertIs(is_demand(demand), True)
        self.assertIs(is_demand(listed(demand)), False)
        self.assertIs(papers == [], reasons != [])
        for told in (demand, listed(demand)):
            self.assertIs(is_so(told), papers == [])
            paper, reason = paper_against(told), reason_for(told)
            if papers:
                self.assertIn(paper, papers)
                self.assertIsNone(reason)
                self.assertEqual(first_fallen((told,)), 0)
            else:
                self.assertIsNone(paper)
                self.assertIn(reason, reasons)
                self.assertIsNone(first_fallen([told]))
        for thing in things + papers + reasons:
            self.assertIs(is_paper_against(demand, thing), thing in papers)
            self.assertIs(is_reason_for(demand, thing), thing in reasons)
        for thing in papers + reasons:
            self.assertIs(is_paper_against(demand, listed(thing)), False)
            self.assertIs(is_reason_for(demand, listed(thing)), False)

    def test_row(self):
        for web in SMALL:
            for side in (0, 1):
                lots, trees = walks.lots(web[side]), walks.trees(web)
                for call in walks.calls(web, side):
                    reasons = [tree for tree in trees if walks.row(web, tree, side) == call]
                    self.check(("row", web, side, call), walks.bars(web, side, call), reasons, lots + trees[::5])

    def test_tight(self):
        for web in SMALL:
            for order in walks.orders(web)[::2]:
                told = [(tree, walks.under(web, tree, order)) for tree in walks.trees(web)[::3]]
                potentials = [walks.potentials(web, tree, order) for tree, _ in told]
                for (tree, under), own in zip(told, potentials):
                    things = list(web[2]) + potentials[:4] + [own]
                    self.check(("tight", web, order, tree), list(under), [] if under else [own], things)

    def test_partner(self):
        for web in SMALL:
            for order in walks.orders(web)[1::2]:
                tights = walks.tights(web, order, 0)
                others = walks.rows(web, 1)
                for row in list(tights)[::2]:
                    tree = tights[row]
                    wanted = walks.row(web, tree, 1)
                    things = others + list(tights.values()) + [row]
                    for other in others:
                        papers = [wanted] if other != wanted else []
                        reasons = [tree] if other == wanted else []
                        self.check(("partner", web, order, row, other), papers, reasons, things)

    def test_far(self):
        for web in SMALL:
            for side in (0, 1):
                rows, lots = walks.rows(web, side), walks.lots(web[side])
                calls = walks.calls(web, side)
                for call in calls[::2]:
                    for number in (0, 1, 2, 10**30):
                        papers = [
                            lot for lot in lots if sum(call[own] for own in lot) > walks.rank(web, side, lot) + number
                        ]
                        reasons = [row for row in rows if apart(call, row) <= number]
                        self.check(("far", web, side, call, number), papers, reasons, lots + calls)

    def test_worth(self):
        for web in SMALL:
            for side in (0, 1):
                rows, calls = walks.rows(web, side), walks.calls(web, side)
                for worths in (tuple(range(web[side])), (3,) + (-2,) * (web[side] - 1), (0,) * web[side]):
                    most = max(worth_of(row, worths) for row in rows)
                    steps = sorted(set(worths), reverse=True)
                    levels = tuple(tuple(at for at, own in enumerate(worths) if own >= step) for step in steps)
                    for number in (most - 2, most - 1, most, most + 1, -(10**30), 10**30):
                        papers = [row for row in rows if worth_of(row, worths) > number]
                        reasons = [] if papers else [levels]
                        self.check(("worth", web, side, worths, number), papers, reasons, calls + [levels])


class Things(unittest.TestCase):
    def test_the_five(self):
        for demand, fallen in zip(STANDING, FALLEN):
            for told in (demand, fallen):
                self.assertIs(is_demand(told), True)
                self.assertIs(is_so(told), told == demand)
            reason, paper = reason_for(demand), paper_against(fallen)
            self.assertIs(is_reason_for(demand, reason), True)
            self.assertIs(is_paper_against(fallen, paper), True)
            self.assertIs(is_reason_for(fallen, reason), False)
            self.assertIs(is_paper_against(demand, paper), False)

    def test_bent_papers(self):
        wanted = [((0,), (0, 1)), ((1, 0),), ((1, 1, 0),), ((0,), (0, 1)), ((1, 0, 1),)]
        for demand, told in zip(FALLEN, wanted):
            for thing in told:
                self.assertIs(is_paper_against(demand, thing), True)
                for own in (list(thing), (thing,), thing + (0,), thing[:-1], (True,) + thing[1:], (None,) + thing[1:]):
                    # By == alone True would be 1.
                    self.assertIs(is_paper_against(demand, own), repr(own) in [repr(paper) for paper in told])
            for thing in (None, 0, 1, True, "0", "", (), [], ("0",), (-1,), (9,), (10**30,), (0, 0), ((),), ([],)):
                self.assertIs(is_paper_against(demand, thing), False)

    def test_bent_reasons(self):
        for demand in STANDING:
            reason = reason_for(demand)
            self.assertIs(is_reason_for(demand, reason), True)
            for thing in (
                list(reason),
                listed(reason),
                (reason,),
                reason + reason[:1],
                reason[:-1],
                (None,) + reason[1:],
                (True,) + reason[1:],
                None,
                0,
                True,
                "",
                (),
                [],
                ((),),
            ):
                self.assertIs(is_reason_for(demand, thing), False)
        # 1 and True are equal in Python, but True is no number.
        self.assertIs(is_reason_for(("far", HOUSE, 0, (2, 0, 0), 1), (1, 0, 1)), True)
        self.assertIs(is_reason_for(("far", HOUSE, 0, (2, 0, 0), 1), (True, 0, 1)), False)
        self.assertIs(is_reason_for(("worth", HOUSE, 0, (5, 1, 1), 6), ((0,), (0, True, 2))), False)
        self.assertIs(is_reason_for(("worth", HOUSE, 0, (5, 1, 1), 6), ((0,), (0, 1, 2))), True)

    def test_potentials_of_a_tree_that_is_not_tight_are_no_reason(self):
        self.assertIs(is_reason_for(("tight", HOUSE, UP, TREE), walks.potentials(HOUSE, TREE, UP)), False)
        self.assertIs(is_reason_for(("tight", HOUSE, UP, FIRST), walks.potentials(HOUSE, FIRST, UP)), True)


class Demands(unittest.TestCase):
    def test_what_is_none(self):
        for wrong in NO_DEMANDS:
            self.assertIs(is_demand(wrong), False, wrong)
            for call, rest in (
                (is_so, ()),
                (paper_against, ()),
                (is_paper_against, (None,)),
                (reason_for, ()),
                (is_reason_for, (TREE,)),
            ):
                self.assertIs(type(raised(call, wrong, *rest)), Unfit, wrong)
            self.assertIs(type(raised(is_so, listed(wrong))), Unfit)
            self.assertIs(type(raised(first_fallen, (STANDING[0], wrong))), Unfit)
            self.assertIs(type(raised(first_fallen, [FALLEN[0], listed(wrong)])), Unfit)

    def test_lists_are_none_but_may_be_passed(self):
        for demand in STANDING + FALLEN:
            self.assertIs(is_demand(list(demand)), False)
            self.assertEqual(is_so(list(demand)), is_so(demand))
            for at in range(1, len(demand)):
                if isinstance(demand[at], tuple):
                    told = demand[:at] + (listed(demand[at]),) + demand[at + 1 :]
                    self.assertIs(is_demand(told), False)
                    self.assertEqual((is_so(told), paper_against(told)), (is_so(demand), paper_against(demand)))

    def test_numbers_of_any_size(self):
        self.assertIs(is_demand(("far", HOUSE, 0, (2, 0, 0), 10**40)), True)
        self.assertIs(is_demand(("worth", HOUSE, 1, (10**40, -(10**40), 0), -(10**40))), True)
        self.assertIs(is_demand(("worth", HOUSE, 0, (1, 2, 3), -1)), True)
        self.assertIs(is_demand(("far", HOUSE, 0, (2, 0, 0), -1)), False)

    def test_first_fallen(self):
        self.assertIsNone(first_fallen(()))
        self.assertIsNone(first_fallen([]))
        self.assertIsNone(first_fallen(tuple(STANDING * 20)))
        for at in range(len(STANDING)):
            for fallen in FALLEN:
                told = STANDING[:at] + [fallen] + STANDING[at:]
                self.assertEqual(first_fallen(told), at)
                self.assertEqual(first_fallen(listed(tuple(told))), at)
                self.assertEqual(first_fallen(tuple(told) + (fallen,)), at)
        for wrong in (None, 0, "row", STANDING[0], (None,), ((),)):
            self.assertIs(type(raised(first_fallen, wrong)), Unfit)


class Bounds(unittest.TestCase):
    def test_the_greatest_and_one_beyond(self):
        for web in (FULL, BROAD, BEYOND):
            tree, order = some_tree(web), web[2][::-1]
            row, other = walks.row(web, tree, 0), walks.row(web, tree, 1)
            worths = tuple(10**9 - place * place for place in range(web[0]))
            call = (web[1] - 1,) + (0,) * (web[0] - 1)
            demands = [("row", web, 0, row), ("row", web, 1, other), ("row", web, 0, call), ("tight", web, order, tree)]
            demands += [("partner", web, order, row, other)]
            demands += [("far", web, 0, call, number) for number in (0, 3, 6, 7, 8, 9)]
            demands += [("worth", web, 0, worths, (web[1] - 1) * (10**9 - own)) for own in (0, 4, 100)]
            for demand in demands:
                self.assertIs(is_demand(demand), True)
                paper, reason = paper_against(demand), reason_for(demand)
                self.assertEqual([paper is None, reason is None], [is_so(demand), not is_so(demand)])
                self.assertIs(is_paper_against(demand, paper), not is_so(demand))
                self.assertIs(is_reason_for(demand, reason), is_so(demand))


if __name__ == "__main__":
    unittest.main()
