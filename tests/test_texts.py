"""[21]: pictures and texts, against a plain reading row by row."""

import unittest
from itertools import product

from eachhandtied.errors import BadText, CanNot, Unfit
from eachhandtied.rows import all_rows
from eachhandtied.signs import words
from eachhandtied.texts import is_sheet, picture, read_picture, read_sheet, read_web, sheet_text, web_text
from eachhandtied.trees import some_tree
from tests import walks
from tests.walks import listed
from tests.wrong import BEYOND, BROAD, FULL, HOUSE, NO_SHEETS, NO_TREES, NO_WEBS, TREE, raised

PAIR = (1, 2, ((0, 0), (0, 1)))
SHEET = (HOUSE, (TREE, HOUSE[2][:3] + HOUSE[2][4:]), ((0, (2, 0, 0)), (1, (0, 1, 1)), (0, (2, 0, 0))))


def sheets():
    """Some SHEETS of all small WEBS."""
    found = []
    for web in walks.small_webs()[::3] + walks.greater_webs()[::3]:
        trees = tuple(walks.trees(web)[::3])
        calls = tuple((side, call) for side in (0, 1) for call in walks.calls(web, side)[::4])
        found.extend([(web, (), ()), (web, trees, ()), (web, (), calls[::-1]), (web, trees[::-1] + trees, calls)])
    return found


def number(word):
    figures = word[1:] if word[0] == "-" else word
    fine = figures.isdigit() and len(figures) < 13 and (figures[0] != "0" or word == "0")
    return int(word) if fine else None


class Reading:
    """A text read row by row: fault is the line that BadText tells, or None."""

    def __init__(self, text):
        self.web, self.trees, self.calls, self.fault = None, [], [], None
        self.stage = 0
        lines = {}
        for word, line in words(text):
            lines.setdefault(line, []).append(word)
        for line in sorted(lines):
            numbers = [number(word) for word in lines[line][1:]]
            if not self.stands(lines[line][0], numbers):
                self.fault = line
                return
        if not lines:
            self.fault = 0
        elif self.stage < 2 and not walks_hang(self.web):
            self.fault = max(lines)

    def stands(self, word, numbers):
        if None in numbers or word not in ("web", "tie", "tree", "call"):
            return False
        stage = ("web", "tie", "tree", "call").index(word)
        if stage < self.stage or (stage == 0) == (self.web is not None):
            return False
        if stage > 1 and self.stage < 2 and not walks_hang(self.web):
            return False
        self.stage = stage
        return (self.row_web, self.row_tie, self.row_tree, self.row_call)[stage](numbers)

    def row_web(self, numbers):
        if len(numbers) != 2 or min(numbers) < 1:
            return False
        self.web = (numbers[0], numbers[1], ())
        return True

    def row_tie(self, numbers):
        many, more, ties = self.web
        if len(numbers) != 2 or numbers[0] not in range(many) or numbers[1] not in range(more):
            return False
        self.web = (many, more, ties + (tuple(numbers),))
        return sorted(set(self.web[2])) == list(self.web[2])

    def row_tree(self, numbers):
        ties = self.web[2]
        if not all(0 <= own < len(ties) for own in numbers) or sorted(set(numbers)) != numbers:
            return False
        self.trees.append(tuple(ties[own] for own in numbers))
        return self.trees[-1] in walks.trees(self.web)

    def row_call(self, numbers):
        if not numbers or numbers[0] not in (0, 1):
            return False
        side, call = numbers[0], tuple(numbers[1:])
        self.calls.append((side, call))
        return len(call) == self.web[side] and min(call) >= 0 and sum(call) == self.web[1 - side] - 1


def walks_hang(web):
    """Whether web hangs together, without a walk over great numbers."""
    return len(web[2]) >= web[0] + web[1] - 1 and walks.hang(*web)


def bent(text):
    """text with each word taken out, doubled or put in the place of another,
    each line taken out, doubled, emptied, exchanged with the next one."""
    rows = [line.split(" ") for line in text.split("\n")]
    found = []
    for at, row in enumerate(rows):
        found.append(rows[:at] + rows[at + 1 :])
        found.append(rows[:at] + [row] + rows[at:])
        found.append(rows[:at] + [["#"]] + rows[at + 1 :])
        found.append(rows[:at] + rows[at : at + 2][::-1] + rows[at + 2 :])
        found.append(rows[:at])
        for place in range(len(row)):
            others = ["0", "1", "2", "3", "9", "-1", "01", "-0", "x", "web", "tie", "tree", "call", "1" * 12, "1" * 13]
            for told in [[], [row[place], row[place]]] + [[other] for other in others]:
                found.append(rows[:at] + [row[:place] + told + row[place + 1 :]] + rows[at + 1 :])
    return ["\n".join(" ".join(row) for row in own) for own in found]


class Sheets(unittest.TestCase):
    def check(self, text):
        """Hold read_sheet and read_web against a reading row by row."""
        told = Reading(text)
        for call in (read_sheet, read_web):
            if told.fault is not None:
                error = raised(call, text)
                self.assertEqual((type(error), vars(error)), (BadText, {"line": told.fault}), text)
        if told.fault is None:
            self.assertEqual(read_sheet(text), (told.web, tuple(told.trees), tuple(told.calls)))
            self.assertEqual(read_web(text), told.web)

    def test_there_and_back(self):
        for sheet in sheets():
            text = sheet_text(sheet)
            self.assertEqual(read_sheet(text), sheet)
            self.assertEqual(read_web(text), sheet[0])
            self.assertEqual(web_text(sheet[0]), sheet_text((sheet[0], (), ())))
            self.assertEqual(sheet_text(listed(sheet)), text)
            self.assertIs(is_sheet(sheet), True)
            self.assertTrue(text.endswith("\n"))
            self.assertEqual([line.split() for line in text[:-1].split("\n")], [line.split(" ") for line in text[:-1].split("\n")])

    def test_as_it_is_told(self):
        self.assertEqual(
            sheet_text(SHEET),
            "web 3 3\ntie 0 0\ntie 0 1\ntie 1 0\ntie 1 1\ntie 2 1\ntie 2 2\n"
            "tree 0 1 3 4 5\ntree 0 1 2 4 5\ncall 0 2 0 0\ncall 1 0 1 1\ncall 0 2 0 0\n",
        )
        self.assertEqual(web_text(PAIR), "web 1 2\ntie 0 0\ntie 0 1\n")
        least = (1, 1, ((0, 0),))
        text = "web 1 1\ntie 0 0\ntree 0\ncall 0 0\ncall 1 0\n"
        self.assertEqual(sheet_text((least, (least[2],), ((0, (0,)), (1, (0,))))), text)
        self.assertEqual(read_sheet(text), (least, (least[2],), ((0, (0,)), (1, (0,)))))

    def test_blanks_remarks_and_empty_lines(self):
        for sheet in sheets()[::5] + [SHEET]:
            text = sheet_text(sheet)
            for other in (
                text.replace(" ", "   "),
                "  " + text.replace("\n", "  \n  "),
                text.replace("\n", " # tie 0 0 A.B {}\n"),
                text.replace("\n", "#\n\n   \n# web 1 1\n"),
                "\n \n#\n" + text + "\n\n# end",
                text[:-1],
            ):
                self.assertEqual(read_sheet(other), sheet)
                self.assertEqual(read_web(other), sheet[0])

    def test_every_fault(self):
        for sheet in (SHEET, (PAIR, (PAIR[2],), ((0, (1,)), (1, (0, 0)))), (PAIR, (), ()), ((2, 2, HOUSE[2][:4]), (), ())):
            for text in bent(sheet_text(sheet)[:-1]):
                self.check(text)
                self.check(text.replace("\n", " # A\n\n"))

    def test_every_short_text(self):
        rows = ["web 1 1", "web 1 2", "web 2 1", "tie 0 0", "tie 0 1", "tie 1 0", "tree 0", "tree 0 1", "call 0 0", "call 1 0", ""]
        for size in range(5):
            for told in product(rows, repeat=size):
                self.check("\n".join(told))

    def test_faults_of_signs_are_ahead(self):
        for text, line in (
            ("tie 0 0\nweb 1 1\ntie 0 0 .", 2),
            ("web 1 1\nfoo\ntie 0 0\nWEB", 3),
            ("A", 0),
            ("web 1 1\ntie 0 0\n\n+5", 3),
            ("web 1 1\r", 0),
        ):
            for call in (read_sheet, read_web):
                error = raised(call, text)
                self.assertEqual((type(error), vars(error)), (BadText, {"line": line}))
        for text, line in (("", 0), ("\n\n", 0), ("# web 1 1", 0), ("  \n # \n", 0), ("\nfoo", 1), ("\n\nweb 1 1\n\n", 2)):
            for call in (read_sheet, read_web):
                error = raised(call, text)
                self.assertEqual((type(error), vars(error)), (BadText, {"line": line}))

    def test_great_numbers(self):
        most = "9" * 12
        for text, line in (
            ("web " + most + " " + most, 0),
            ("web " + most + " 1\ntie 0 0", 1),
            ("web " + most + " 1\ntie 0 0\ntree 0", 2),
            ("web 1 1\ntie 0 0\ntree " + most, 2),
            ("web 1 1\ntie 0 0\ntree -1", 2),
            ("web 1 1\ntie 0 0\ntree", 2),
            ("web 1 1\ntie 0 0\ncall", 2),
            ("web 1 1\ntie 0 0\ncall 0", 2),
            ("web 1 1\ntie 0 0\ncall 2 0", 2),
            ("web 1 1\ntie 0 0\ncall -1 0", 2),
            ("web 1 2\ntie 0 0\ntie 0 1\ncall 1 " + most + " -" + most, 3),
            ("web 0 1", 0),
            ("web 1 -1", 0),
            ("web 1", 0),
            ("web 1 1 1", 0),
        ):
            error = raised(read_sheet, text)
            self.assertEqual((type(error), vars(error)), (BadText, {"line": line}), text)

    def test_at_the_bounds(self):
        for web in (FULL, BROAD, BEYOND):
            tree = some_tree(web)
            sheet = (web, (tree,) * 3, ((0, walks.row(web, tree, 0)), (1, walks.row(web, tree, 1))))
            self.assertIs(is_sheet(sheet), True)
            self.assertEqual(read_sheet(sheet_text(sheet)), sheet)
        rows = tuple((1, row) for row in all_rows(FULL, 1))
        self.assertEqual(read_sheet(sheet_text((FULL, (), rows))), (FULL, (), rows))

    def test_what_is_no_sheet(self):
        for wrong in NO_SHEETS:
            self.assertIs(is_sheet(wrong), False)
            self.assertIs(type(raised(sheet_text, wrong)), Unfit)
            self.assertIs(type(raised(sheet_text, listed(wrong))), Unfit)
        for wrong in NO_WEBS:
            self.assertIs(is_sheet((wrong, (), ())), False)
            self.assertIs(type(raised(web_text, wrong)), Unfit)
        for wrong in NO_TREES:
            self.assertIs(is_sheet((HOUSE, (TREE, wrong), ())), False)
        for thing in (
            list(SHEET),
            listed(SHEET),
            (listed(HOUSE),) + SHEET[1:],
            (HOUSE, list(SHEET[1]), SHEET[2]),
            (HOUSE, (list(TREE),), ()),
            (HOUSE, (), list(SHEET[2])),
            (HOUSE, (), ([0, (2, 0, 0)],)),
            (HOUSE, (), ((0, [2, 0, 0]),)),
        ):
            self.assertIs(is_sheet(thing), False)
            self.assertIsNone(raised(sheet_text, thing))


def shown(web, tree):
    """The picture of both."""
    told = ""
    for hand in range(web[0]):
        for task in range(web[1]):
            told += "#" if (hand, task) in tree else "+" if (hand, task) in web[2] else "."
        told += "\n"
    return told


def picture_fault(text):
    """The line that BadText tells of a picture; None if it has no fault."""
    lines = text.split("\n")
    if text.endswith("\n"):
        lines = lines[:-1]
    for at, line in enumerate(lines):
        if not line or len(line) != len(lines[0]) or set(line) - set("#+."):
            return at
    return None if text.endswith("\n") else len(lines) - 1


class Pictures(unittest.TestCase):
    def test_there_and_back(self):
        for web in walks.some_webs() + walks.greater_webs()[::4]:
            for tree in walks.trees(web):
                self.assertEqual(picture(web, tree), shown(web, tree))
                self.assertEqual(read_picture(shown(web, tree)), (web, tree))
        for web in (FULL, BROAD, BEYOND):
            tree = some_tree(web)
            self.assertEqual(picture(web, tree), shown(web, tree))
            self.assertEqual(read_picture(shown(web, tree)), (web, tree))

    def test_every_short_text(self):
        for size in range(7):
            for signs in product("#+.\n", repeat=size):
                self.check("".join(signs))
        for signs in product("# a\n", repeat=5):
            self.check("".join(signs))

    def check(self, text):
        fault = picture_fault(text)
        if fault is not None:
            error = raised(read_picture, text)
            self.assertEqual((type(error), vars(error)), (BadText, {"line": fault}), text)
            return
        lines = text[:-1].split("\n")
        every = [(hand, task, sign) for hand, line in enumerate(lines) for task, sign in enumerate(line)]
        web = (len(lines), len(lines[0]), tuple(own[:2] for own in every if own[2] != "."))
        tree = tuple(own[:2] for own in every if own[2] == "#")
        if tree in walks.trees(web):
            self.assertEqual(read_picture(text), (web, tree))
        else:
            error = raised(read_picture, text)
            self.assertEqual((type(error), vars(error)), (CanNot, {}), text)

    def test_faults(self):
        for text, line in (
            ("", 0),
            ("\n", 0),
            ("#", 0),
            ("##\n##", 1),
            ("#\n\n", 1),
            ("##\n#\n###\n", 1),
            ("##\n##\n#x\n#\n", 2),
            ("x", 0),
            ("# #\n", 0),
            ("#\r\n", 0),
            ("##\n..\nxx", 2),
            ("##\n...", 1),
            ("##\n\n..", 1),
            ("##\n#.\n\n", 2),
        ):
            error = raised(read_picture, text)
            self.assertEqual((type(error), vars(error)), (BadText, {"line": line}), text)
        # A fault is told ahead of there being no TREE.
        self.assertIs(type(raised(read_picture, "..\n..\n.")), BadText)
        self.assertIs(type(raised(read_picture, "..\n..\n")), CanNot)

    def test_unfit(self):
        for web in NO_WEBS:
            self.assertIs(type(raised(picture, web, TREE)), Unfit)
        for tree in NO_TREES:
            self.assertIs(type(raised(picture, HOUSE, tree)), Unfit)
        self.assertEqual(picture(listed(HOUSE), listed(TREE)), shown(HOUSE, TREE))


if __name__ == "__main__":
    unittest.main()
