"""[25]: the desk, against a plain one that knows all TREES of a WEB."""

import inspect
import unittest
from itertools import product

from eachhandtied.counts import ring_web
from eachhandtied.desk import Desk
from eachhandtied.errors import BadText, NothingDone, Unfit
from eachhandtied.numbered import first_row
from eachhandtied.tight import is_tight, tight_tree
from tests import walks
from tests.walks import listed
from tests.wrong import BEYOND, BROAD, FULL, HOUSE, NO_ORDERS, NO_WEBS, raised

WEB = (2, 3, ((0, 0), (0, 1), (0, 2), (1, 1), (1, 2)))


class Plain:
    """A desk that finds each TREE among all with a ROW."""

    def __init__(self, web, order):
        self.web = web
        self.state = (order, walks.rows(web, 0)[0])
        self.back, self.again = [], []

    def tree(self, state, side=0, row=None):
        return walks.tights(self.web, state[0], side)[state[1] if row is None else row]

    def line(self, state, line):
        order, row = state
        word, numbers = line.split(" ")[0], [int(own) for own in line.split(" ")[1:]]
        if word in ("hand", "task"):
            side = ("hand", "task").index(word)
            told = list(walks.row(self.web, self.tree(state), side))
            if max(numbers) >= len(told):
                return "no " + word, state
            told[numbers[0]] -= 1
            told[numbers[1]] += 1
            if numbers[0] == numbers[1] or tuple(told) not in walks.rows(self.web, side):
                return "no handing", state
            return "done", (order, walks.row(self.web, self.tree(state, side, tuple(told)), 0))
        if word == "up":
            at = numbers[0]
            if at >= len(order):
                return "no place", state
            if at == 0:
                return "first", state
            told = list(order)
            told[at - 1 : at + 1] = [told[at], told[at - 1]]
            return "done", (tuple(told), row)
        if word in ("hands", "tasks"):
            told = walks.row(self.web, self.tree(state), ("hands", "tasks").index(word))
            return " ".join(str(own) for own in told), state
        return ", ".join(str(own[0]) + " " + str(own[1]) for own in (order if word == "order" else self.tree(state))), state

    def say(self, text):
        state, answers = self.state, []
        for line in text.split("\n"):
            answer, state = self.line(state, line)
            answers.append(answer)
        if "done" in answers:
            self.back, self.again, self.state = self.back + [self.state], [], state
        return tuple(answers)

    def turn(self, back):
        ours, theirs = (self.back, self.again) if back else (self.again, self.back)
        if not ours:
            return None
        theirs.append(self.state)
        self.state = ours.pop()
        return len(self.back)


def held(desk):
    """All that a Desk tells of itself."""
    return desk.web(), desk.order(), desk.row(), desk.tree()


def history(desk):
    """How much of a Desk can be taken back and done once more, by twins of it."""
    found = []
    for turn in ("undo", "redo"):
        twin = desk.twin()
        states = []
        while not isinstance(raised(getattr(twin, turn)), NothingDone):
            states.append(held(twin))
        found.append(states)
    return found


LINES = ["hands", "tasks", "tree", "order"]
LINES += ["hand " + str(one) + " " + str(two) for one in range(4) for two in range(4)]
LINES += ["task " + str(one) + " " + str(two) for one in range(4) for two in range(4)]
LINES += ["up " + str(at) for at in (0, 1, 2, 3, 5, 6, 7, 999999)] + ["hand 999999 0", "task 0 999999"]


class Says(unittest.TestCase):
    def same(self, desk, plain):
        state = plain.state
        self.assertEqual(held(desk), (plain.web, state[0], state[1], plain.tree(state)))

    def test_every_line_and_two(self):
        for web in walks.small_webs()[::6] + [HOUSE, WEB, ring_web(3)]:
            for order in walks.orders(web)[::3]:
                for told in [(line,) for line in LINES] + list(zip(LINES, LINES[::-1])):
                    desk, plain = Desk(web, order), Plain(web, order)
                    self.same(desk, plain)
                    self.assertEqual(desk.say("\n".join(told)), plain.say("\n".join(told)))
                    self.same(desk, plain)

    def test_long_work(self):
        for web in (HOUSE, WEB, ring_web(3)) + tuple(walks.greater_webs()[::5]):
            desk, plain = Desk(web, web[2]), Plain(web, web[2])
            at = 1
            for _ in range(250):
                at = at * 75 % 65537
                if at % 7 < 2:
                    count = plain.turn(at % 7 == 0)
                    turn = desk.undo if at % 7 == 0 else desk.redo
                    if count is None:
                        error = raised(turn)
                        self.assertEqual((type(error), vars(error)), (NothingDone, {}))
                    else:
                        self.assertEqual(turn(), count)
                else:
                    text = "\n".join(LINES[(at * own) % 31 + at % 11] for own in range(1, 2 + at % 4))
                    self.assertEqual(desk.say(text), plain.say(text))
                self.same(desk, plain)
            self.assertIs(is_tight(web, desk.order(), desk.tree()), True)

    def test_at_the_beginning(self):
        for web in walks.some_webs()[::3]:
            for order in walks.orders(web)[::2]:
                desk = Desk(web, order)
                self.assertEqual(held(desk)[:3], (web, order, walks.rows(web, 0)[0]))
                self.assertEqual(desk.tree(), tight_tree(web, order, 0, desk.row()))
                self.assertEqual(history(desk), [[], []])

    def test_each_answer(self):
        desk = Desk(HOUSE, HOUSE[2])
        for text, wanted in (
            ("hands", "0 1 1"),
            ("tasks", "0 2 0"),
            ("tree", "0 1, 1 0, 1 1, 2 1, 2 2"),
            ("order", "0 0, 0 1, 1 0, 1 1, 2 1, 2 2"),
            ("hand 3 0", "no hand"),
            ("hand 0 3", "no hand"),
            ("hand 3 3", "no hand"),
            ("hand 0 0", "no handing"),
            ("hand 1 1", "no handing"),
            ("hand 0 1", "no handing"),
            ("hand 2 0", "no handing"),
            ("task 3 0", "no task"),
            ("task 0 3", "no task"),
            ("task 999999 999999", "no task"),
            ("task 1 1", "no handing"),
            ("task 0 1", "no handing"),
            ("up 6", "no place"),
            ("up 999999", "no place"),
            ("up 0", "first"),
        ):
            self.assertEqual(desk.say(text), (wanted,))
            self.assertEqual(history(desk), [[], []])
        self.assertEqual(desk.say("hand 1 0"), ("done",))
        self.assertEqual(held(desk)[2:], ((1, 0, 1), ((0, 0), (0, 1), (1, 0), (2, 1), (2, 2))))
        self.assertEqual(desk.say("task 0 1\nhands\ntasks"), ("done", "0 1 1", "0 2 0"))
        self.assertEqual(desk.say("up 5\norder\nhands"), ("done", "0 0, 0 1, 1 0, 1 1, 2 2, 2 1", "0 1 1"))

    def test_wide_numbers(self):
        desk = Desk(BROAD, BROAD[2])
        self.assertEqual(desk.say("up 59\nup 60\nhand 11 0\nhand 12 0\ntask 0 12"), ("done", "no place", "done", "no hand", "no task"))


class Texts(unittest.TestCase):
    def test_lines_that_are_none(self):
        wrong = "|hand|hand 1|hand 1 0 0|task 1|up|up 1 0|hands 0|tasks x|tree 1|order 0|Hands|HANDS|hand  1 0|hand 1  0"
        wrong += "| hands|hands |hand 1 0 |hand\t1 0|hand 01 0|hand 1 00|up 02|up -1|up -0|up +1|up 1000000|up 0000001|hand a b"
        wrong += "|hand 1,0|web|row|undo|redo|say|#|# hands|hands # x|up 1#|tree,|done|hand 1 0x|up x|up 1.0|up 1_0|hand 1 -1"
        for line in wrong.split("|"):
            for text, at in ((line, 0), ("hands\n" + line, 1), ("hand 1 0\nup 1\n" + line + "\nhands", 2), (line + "\n" + line, 0)):
                desk = Desk(HOUSE, HOUSE[2])
                before = held(desk)
                error = raised(desk.say, text)
                self.assertEqual((type(error), vars(error)), (BadText, {"line": at}), text)
                # Nothing is done, not even the lines ahead.
                self.assertEqual(held(desk), before)
                self.assertEqual(history(desk), [[], []])

    def test_line_breaks_at_the_end(self):
        desk = Desk(HOUSE, HOUSE[2])
        for text, at in (("hand 1 0\n", 1), ("\nhands", 0), ("hands\n\ntree", 1), ("hands\n\n", 1), ("", 0), ("\n", 0)):
            error = raised(desk.say, text)
            self.assertEqual((type(error), vars(error)), (BadText, {"line": at}))
        self.assertEqual(desk.row(), (0, 1, 1))

    def test_a_bad_text_ends_nothing(self):
        desk = Desk(HOUSE, HOUSE[2])
        desk.say("hand 1 0")
        desk.say("up 3")
        desk.undo()
        told = history(desk)
        self.assertIs(type(raised(desk.say, "hand 0 1\nfoo")), BadText)
        self.assertEqual(history(desk), told)
        self.assertEqual(desk.redo(), 2)

    def test_every_pair_of_signs_of_a_number(self):
        for told in product("0123456789-+ xA#", repeat=2):
            word = "".join(told)
            fine = word.isdigit() and word[0] != "0"
            desk = Desk(HOUSE, HOUSE[2])
            if fine:
                self.assertEqual(desk.say("up " + word), ("no place",))
            else:
                self.assertIs(type(raised(desk.say, "up " + word)), BadText)

    def test_names(self):
        desk = Desk(order=HOUSE[2], web=HOUSE)
        self.assertEqual(desk.say(text="hands"), ("0 1 1",))


class Turns(unittest.TestCase):
    def test_whole_says(self):
        desk = Desk(HOUSE, HOUSE[2])
        states = [held(desk)]
        for text in ("hand 1 0\nup 2\nup 1", "up 0\nhands\nup 5", "hand 0 1\nhand 1 0"):
            desk.say(text)
            states.append(held(desk))
        # What leads back to where it began was done, too.
        self.assertEqual(states[2], states[3])
        self.assertEqual([desk.undo(), held(desk) == states[2]], [2, True])
        self.assertEqual([desk.undo(), held(desk) == states[1]], [1, True])
        self.assertEqual([desk.undo(), held(desk) == states[0]], [0, True])
        self.assertIs(type(raised(desk.undo)), NothingDone)
        self.assertEqual(held(desk), states[0])
        self.assertEqual([desk.redo(), held(desk) == states[1]], [1, True])
        self.assertEqual([desk.redo(), held(desk) == states[2]], [2, True])
        self.assertEqual([desk.redo(), held(desk) == states[3]], [3, True])
        self.assertIs(type(raised(desk.redo)), NothingDone)
        self.assertEqual([desk.undo(), desk.undo(), desk.redo()], [2, 1, 2])

    def test_says_that_did_nothing_are_not_taken_back(self):
        desk = Desk(HOUSE, HOUSE[2])
        for text in ("hands", "hand 0 0\nup 0\ntask 0 9", "tree\norder"):
            desk.say(text)
            error = raised(desk.undo)
            self.assertEqual((type(error), vars(error)), (NothingDone, {}))
        desk.say("hand 1 0")
        desk.say("hands\nhand 1 0\nup 0")
        self.assertEqual(desk.undo(), 0)
        # Neither do they end what can be done once more; one that did does.
        desk.say("hands\nup 9")
        self.assertEqual(desk.redo(), 1)
        desk.undo()
        desk.say("up 1")
        error = raised(desk.redo)
        self.assertEqual((type(error), vars(error)), (NothingDone, {}))
        self.assertEqual(desk.undo(), 0)

    def test_many_says(self):
        desk = Desk(HOUSE, HOUSE[2])
        for at in range(100):
            desk.say("up " + str(1 + at % 5))
        self.assertEqual([desk.undo() for _ in range(100)], list(range(100))[::-1])
        self.assertEqual(desk.order(), HOUSE[2])
        self.assertEqual([desk.redo() for _ in range(100)], list(range(1, 101)))


class Twins(unittest.TestCase):
    def test_a_twin_is_like_it_and_another(self):
        desk = Desk(HOUSE, HOUSE[2])
        for text in ("hand 1 0", "up 2", "up 3", "task 0 1"):
            desk.say(text)
        desk.undo()
        desk.undo()
        twin = desk.twin()
        self.assertIsNot(twin, desk)
        self.assertIs(type(twin), Desk)
        self.assertEqual((held(twin), history(twin)), (held(desk), history(desk)))
        self.assertEqual([len(own) for own in history(twin)], [2, 2])
        kept = (held(desk), history(desk))
        twin.undo()
        twin.say("up 5")
        self.assertEqual((held(desk), history(desk)), kept)
        kept = (held(twin), history(twin))
        desk.redo()
        desk.undo()
        desk.undo()
        desk.undo()
        self.assertEqual((held(twin), history(twin)), kept)
        self.assertEqual(raised(desk.undo).__class__, NothingDone)

    def test_equal(self):
        desk, other = Desk(HOUSE, HOUSE[2]), Desk(listed(HOUSE), listed(HOUSE[2]))
        self.assertIs(desk == other, True)
        self.assertIs(desk != other, False)
        other.say("hand 1 0")
        self.assertIs(desk == other, False)
        self.assertIs(desk != other, True)
        # What can be taken back does not count.
        other.say("hand 0 1")
        self.assertIs(desk == other, True)
        other.say("up 5")
        self.assertEqual(desk.row(), other.row())
        self.assertIs(desk == other, False)
        self.assertIs(desk == Desk(HOUSE, HOUSE[2][::-1]), False)
        self.assertIs(Desk(WEB, WEB[2]) == desk, False)
        for thing in (None, 0, "desk", (), HOUSE, [desk], Desk):
            self.assertIs(desk == thing, False)
            self.assertIs(desk != thing, True)
        self.assertIs(desk == desk.twin(), True)
        self.assertIs(desk == desk, True)

    def test_one_web_with_other_ties(self):
        one, two = (1, 2, ((0, 0), (0, 1))), (2, 1, ((0, 0), (1, 0)))
        self.assertIs(Desk(one, one[2]) == Desk(two, two[2]), False)


class Made(unittest.TestCase):
    def test_unfit(self):
        for web in NO_WEBS:
            self.assertIs(type(raised(Desk, web, HOUSE[2])), Unfit)
        for order in NO_ORDERS:
            self.assertIs(type(raised(Desk, HOUSE, order)), Unfit)
            self.assertIs(type(raised(Desk, HOUSE, listed(order))), Unfit)

    def test_what_is_handed_in_is_copied(self):
        web, order = listed(HOUSE), listed(HOUSE[2])
        desk = Desk(web, order)
        kept = held(desk)
        self.assertEqual((web, order), (listed(HOUSE), listed(HOUSE[2])))
        order.reverse()
        order[0][0] = 7
        web[0] = 9
        web[2].clear()
        self.assertEqual(held(desk), kept)
        self.assertEqual(repr(held(desk)), repr((HOUSE, HOUSE[2], (0, 1, 1), ((0, 1), (1, 0), (1, 1), (2, 1), (2, 2)))))
        self.assertEqual(desk.say("hand 1 0"), ("done",))

    def test_methods(self):
        wanted = {
            "__init__": "self web order",
            "say": "self text",
            "web": "self",
            "order": "self",
            "row": "self",
            "tree": "self",
            "undo": "self",
            "redo": "self",
            "twin": "self",
            "__eq__": "self other",
        }
        for name, arguments in wanted.items():
            self.assertIn(name, vars(Desk))
            self.assertEqual(list(inspect.signature(vars(Desk)[name]).parameters), arguments.split())
        self.assertEqual((Desk.__module__, Desk.__bases__), ("eachhandtied.desk", (object,)))

    def test_the_greatest_and_one_beyond(self):
        for web in (FULL, BROAD, BEYOND):
            desk = Desk(web, web[2])
            self.assertEqual(desk.row(), first_row(web, 0))
            last = len(web[2]) - 1
            told = desk.say("up " + str(last) + "\nup " + str(last + 1) + "\nhand " + str(web[0] - 1) + " 0\ntask 0 " + str(web[1]))
            self.assertEqual(told, ("done", "no place", "done", "no task"))
            self.assertIs(is_tight(web, desk.order(), desk.tree()), True)
            self.assertEqual(walks.row(web, desk.tree(), 0), desk.row())
            self.assertEqual(desk.undo(), 0)
            self.assertIs(desk == Desk(web, web[2]), True)


if __name__ == "__main__":
    unittest.main()
