"""Pictures of TREES, and texts of SHEETS."""

from eachhandtied.errors import BadText, CanNot, Unfit
from eachhandtied.fit import fit_tree, fit_web, good_call, good_side, good_tree, good_web
from eachhandtied.plain import tupled
from eachhandtied.signs import number_of, word_of, words

IN_TREE = "#"
IN_WEB = "+"
IN_NONE = "."


def good_side_call(web, thing):
    """Whether thing is a pair of a SIDE and a CALL of it."""
    if not isinstance(thing, tuple) or len(thing) != 2:
        return False
    return good_side(thing[0]) and good_call(web, thing[0], thing[1])


def good_sheet(thing):
    """Whether thing is a SHEET."""
    if not isinstance(thing, tuple) or len(thing) != 3:
        return False
    web, trees, calls = thing
    if not good_web(web) or not isinstance(trees, tuple) or not isinstance(calls, tuple):
        return False
    return all([good_tree(web, own) for own in trees]) and all([good_side_call(web, own) for own in calls])


def line_of(word, numbers):
    """The line of a text with word and the number words of numbers."""
    return " ".join([word] + [word_of(number) for number in numbers]) + "\n"


def text_told(sheet):
    """The text of sheet."""
    web, trees, calls = sheet
    lines = [line_of("web", web[:2])]
    lines.extend([line_of("tie", tie) for tie in web[2]])
    lines.extend([line_of("tree", [web[2].index(tie) for tie in tree]) for tree in trees])
    lines.extend([line_of("call", (side,) + call) for side, call in calls])
    return "".join(lines)


def rows_in(text):
    """The list of the pairs of the number of a line that has words and of these."""
    rows = []
    for word, line in words(text):
        if not rows or rows[-1][0] < line:
            rows.append((line, []))
        rows[-1][1].append(word)
    return rows


def numbers_behind(row):
    """The tuple of the numbers behind the first word of row."""
    line, told = row
    numbers = tuple([number_of(word) for word in told[1:]])
    if None in numbers:
        raise BadText(line)
    return numbers


def run_of(rows, at, word):
    """The list of the rows from place at on up to the first that does not
    begin with word."""
    end = at
    while end < len(rows) and rows[end][1][0] == word:
        end += 1
    return rows[at:end]


def read_sizes(row):
    """How many HANDS and TASKS the row web tells."""
    line, told = row
    if told[0] != "web" or len(told) != 3:
        raise BadText(line)
    many, number = numbers_behind(row)
    if many < 1 or number < 1:
        raise BadText(line)
    return many, number


def read_ties(many, number, rows):
    """The TIES that rows tell."""
    ties = []
    for row in rows:
        tie = numbers_behind(row)
        if len(tie) != 2 or not 0 <= tie[0] < many or not 0 <= tie[1] < number:
            raise BadText(row[0])
        if ties and tie <= ties[-1]:
            raise BadText(row[0])
        ties.append(tie)
    return tuple(ties)


def read_tree(web, row):
    """The TREE of web that row tells."""
    numbers = numbers_behind(row)
    if not all([0 <= own < len(web[2]) for own in numbers]):
        raise BadText(row[0])
    # As its TIES have to, their numbers rise.
    tree = tuple([web[2][own] for own in numbers])
    if not good_tree(web, tree):
        raise BadText(row[0])
    return tree


def read_call(web, row):
    """The pair of a SIDE and a CALL of it that row tells."""
    numbers = numbers_behind(row)
    told = numbers[:1] + (numbers[1:],)
    if not good_side_call(web, told):
        raise BadText(row[0])
    return told


def sheet_in(rows):
    """The SHEET that rows tell."""
    if not rows:
        raise BadText(0)
    many, number = read_sizes(rows[0])
    ties = run_of(rows, 1, "tie")
    web = (many, number, read_ties(many, number, ties))
    at = 1 + len(ties)
    if not good_web(web):
        raise BadText(rows[min(at, len(rows) - 1)][0])
    trees = run_of(rows, at, "tree")
    told = tuple([read_tree(web, row) for row in trees])
    at += len(trees)
    calls = run_of(rows, at, "call")
    asked = tuple([read_call(web, row) for row in calls])
    at += len(calls)
    if at < len(rows):
        raise BadText(rows[at][0])
    return web, told, asked


def web_and_tree(lines):
    """The triple of HANDS, TASKS, TIES that lines show, and the TIES of the TREE."""
    tree, other = [], []
    for hand, line in enumerate(lines):
        tree.extend([(hand, task) for task, sign in enumerate(line) if sign == IN_TREE])
        other.extend([(hand, task) for task, sign in enumerate(line) if sign == IN_WEB])
    return (len(lines), len(lines[0]), tuple(sorted(tree + other))), tuple(tree)


def lines_of(text):
    """The lines of a picture; BadText if it is none."""
    lines = text.split("\n")
    ended = lines[-1] == "" and len(lines) > 1
    if ended:
        lines.pop()
    for at, line in enumerate(lines):
        if line == "" or len(line) != len(lines[0]) or line.strip(IN_TREE + IN_WEB + IN_NONE) != "":
            raise BadText(at)
    if not ended:
        raise BadText(len(lines) - 1)
    return lines


def sign_at(tree, ties, tie):
    """The sign of a picture for tie."""
    if tie in tree:
        return IN_TREE
    return IN_WEB if tie in ties else IN_NONE


def is_sheet(thing):
    """Whether thing is a SHEET."""
    return good_sheet(thing)


def sheet_text(sheet):
    """The text of sheet."""
    told = tupled(sheet, 4)
    if not good_sheet(told):
        raise Unfit()
    return text_told(told)


def read_sheet(text):
    """The SHEET of text."""
    return sheet_in(rows_in(text))


def web_text(web):
    """The text of web alone."""
    return text_told((fit_web(web), (), ()))


def read_web(text):
    """The WEB of the SHEET of text."""
    return sheet_in(rows_in(text))[0]


def picture(web, tree):
    """The picture of web and tree."""
    web = fit_web(web)
    tree = fit_tree(web, tree)
    many, number, ties = web
    lines = ["".join([sign_at(tree, ties, (hand, task)) for task in range(number)]) for hand in range(many)]
    return "".join([line + "\n" for line in lines])


def read_picture(text):
    """The pair of the WEB and the TREE of a picture."""
    web, tree = web_and_tree(lines_of(text))
    if not good_web(web) or not good_tree(web, tree):
        raise CanNot()
    return web, tree
