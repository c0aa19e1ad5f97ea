"""The words of a text."""

from eachhandtied.errors import BadText, Unfit
from eachhandtied.plain import is_number, tupled

FIGURES = "0123456789"
SIGNS = "abcdefghijklmnopqrstuvwxyz0123456789-"
MOST_FIGURES = 12


def words(text):
    """The list of the pairs of a word of text and its line."""
    found = []
    for line, whole in enumerate(text.split("\n")):
        told = whole.partition("#")[0]
        if not all([sign == " " or sign in SIGNS for sign in told]):
            raise BadText(line)
        found.extend([(word, line) for word in told.split()])
    return found


def text_of(words):
    """The text with each of words in its line."""
    told = tupled(words, 2)
    if not are_words(told):
        raise Unfit()
    parts = []
    at = 0
    for place, (word, line) in enumerate(told):
        if line > at:
            parts.append("\n" * (line - at))
        elif place > 0:
            parts.append(" ")
        at = line
        parts.append(word)
    if told:
        parts.append("\n")
    return "".join(parts)


def are_words(thing):
    """Whether thing is a tuple of pairs (word, line), lines never falling."""
    if not isinstance(thing, tuple) or not all([is_word_pair(own) for own in thing]):
        return False
    return all([thing[at - 1][1] <= thing[at][1] for at in range(1, len(thing))])


def is_word_pair(thing):
    """Whether thing is a pair of a word and a line from 0."""
    if not isinstance(thing, tuple) or len(thing) != 2:
        return False
    word, line = thing
    if not isinstance(word, str) or not is_number(line):
        return False
    return word != "" and line >= 0 and all([sign in SIGNS for sign in word])


def number_of(word):
    """The number of a number word; None if word is none."""
    figures = word.removeprefix("-")
    if not 1 <= len(figures) <= MOST_FIGURES or not all([sign in FIGURES for sign in figures]):
        return None
    # A 0 ahead is needless, but for the one word of 0 itself, without a "-".
    if figures[0] == "0" and word != "0":
        return None
    return int(word)


def word_of(number):
    """The number word of number."""
    return str(number)
