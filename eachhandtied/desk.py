"""A desk: a WEB, an ORDER and a ROW, worked by lines of text.

What is kept and changed is a STATE: the triple of the ORDER, the ROW of the
HANDS and the TREE, the TIGHT one with this ROW."""

from eachhandtied.chains import least_row
from eachhandtied.errors import BadText, NothingDone
from eachhandtied.fit import fit_order, fit_web, good_row
from eachhandtied.handings import shifted
from eachhandtied.joins import near_of
from eachhandtied.signs import number_of, word_of
from eachhandtied.spans import row_in
from eachhandtied.tightened import tight_with

DONE = "done"
NO_HANDING = "no handing"
NO_PLACES = ("no hand", "no task")
NO_PLACE = "no place"
FIRST = "first"
MOST_FIGURES = 6


def begun(web, order, row):
    """The STATE of this ORDER and this ROW of the HANDS."""
    return order, row, tight_with(web, order, 0, row)


def handed_on(web, state, side, less, more):
    """The answer to a HANDING of this SIDE, and the STATE then."""
    order, _, tree = state
    if less >= web[side] or more >= web[side]:
        return NO_PLACES[side], state
    row = shifted(row_in(web, tree, side), (less, more))
    if less == more or not good_row(web, side, row):
        return NO_HANDING, state
    tree = tight_with(web, order, side, row)
    return DONE, (order, row_in(web, tree, 0), tree)


def done_hand(web, state, numbers):
    """The answer to a line hand, and the STATE then."""
    return handed_on(web, state, 0, numbers[0], numbers[1])


def done_task(web, state, numbers):
    """The answer to a line task, and the STATE then."""
    return handed_on(web, state, 1, numbers[0], numbers[1])


def done_up(web, state, numbers):
    """The answer to a line up, and the STATE then."""
    order, row, _ = state
    at = numbers[0]
    if at >= len(order):
        return NO_PLACE, state
    if at == 0:
        return FIRST, state
    told = order[:at - 1] + (order[at], order[at - 1]) + order[at + 1:]
    return DONE, begun(web, told, row)


def told_numbers(row):
    """The numbers of row as an answer."""
    return " ".join([word_of(number) for number in row])


def told_ties(ties):
    """TIES as an answer."""
    return ", ".join([told_numbers(tie) for tie in ties])


def told_hands(web, state, numbers):
    """The answer to a line hands, and the STATE."""
    return told_numbers(state[1]), state


def told_tasks(web, state, numbers):
    """The answer to a line tasks, and the STATE."""
    return told_numbers(row_in(web, state[2], 1)), state


def told_tree(web, state, numbers):
    """The answer to a line tree, and the STATE."""
    return told_ties(state[2]), state


def told_order(web, state, numbers):
    """The answer to a line order, and the STATE."""
    return told_ties(state[0]), state


# By the first word of a line: how many numbers stand behind it, what is done.
NUMBERS = {"hand": 2, "task": 2, "up": 1, "hands": 0, "tasks": 0, "tree": 0, "order": 0}
ACTIONS = {
    "hand": done_hand,
    "task": done_task,
    "up": done_up,
    "hands": told_hands,
    "tasks": told_tasks,
    "tree": told_tree,
    "order": told_order,
}


def number_in(word):
    """The number of word; None if a line can have no such number."""
    if len(word) > MOST_FIGURES or word.startswith("-"):
        return None
    return number_of(word)


def line_read(line):
    """The pair of the first word of line and its numbers; None if line is none
    of the table."""
    parts = line.split(" ")
    word, numbers = parts[0], [number_in(own) for own in parts[1:]]
    if word not in NUMBERS or len(numbers) != NUMBERS[word] or None in numbers:
        return None
    return word, numbers


def lines_read(text):
    """The list of what the lines of text are; BadText if one is none."""
    found = []
    for at, line in enumerate(text.split("\n")):
        told = line_read(line)
        if told is None:
            raise BadText(at)
        found.append(told)
    return found


class Desk:
    """A WEB and an ORDER of it, with a ROW of the HANDS."""

    def __init__(self, web, order):
        self._web = fit_web(web)
        told = fit_order(self._web, order)
        self._state = begun(self._web, told, least_row(near_of(self._web, 0)))
        # The STATES ahead of the says that can be taken back, and those behind
        # the says that can be done once more, the next one last.
        self._back = []
        self._again = []

    def web(self):
        """The WEB."""
        return self._web

    def order(self):
        """The ORDER now."""
        return self._state[0]

    def row(self):
        """The ROW of the HANDS now."""
        return self._state[1]

    def tree(self):
        """The TREE now."""
        return self._state[2]

    def say(self, text):
        """The tuple of the answers to the lines of text, done one by one."""
        state, answers = self._state, []
        for word, numbers in lines_read(text):
            action = ACTIONS[word]
            answer, state = action(self._web, state, numbers)
            answers.append(answer)
        if DONE in answers:
            self._back.append(self._state)
            self._again = []
            self._state = state
        return tuple(answers)

    def undo(self):
        """Take back the last say that did something; how many are left."""
        if not self._back:
            raise NothingDone()
        self._again.append(self._state)
        self._state = self._back.pop()
        return len(self._back)

    def redo(self):
        """Do the last say that was taken back once more; how many are done."""
        if not self._again:
            raise NothingDone()
        self._back.append(self._state)
        self._state = self._again.pop()
        return len(self._back)

    def twin(self):
        """Another Desk like it, with all that can be taken back and done again."""
        told = Desk(self._web, self._state[0])
        told._state = self._state
        told._back = list(self._back)
        told._again = list(self._again)
        return told

    def __eq__(self, other):
        """Whether WEB, ORDER and ROW are the same."""
        return isinstance(other, Desk) and self._web == other._web and self._state == other._state
