"""[4]: the words of a text."""

import unittest
from itertools import product

from eachhandtied.errors import BadText, Unfit
from eachhandtied.signs import number_of, text_of, word_of, words
from tests.walks import listed

MADE = [
    [],
    [("a", 0)],
    [("a", 5)],
    [("web", 0), ("-1", 0), ("07-", 1)],
    [("a", 0), ("b", 0), ("c", 2), ("d", 2), ("e", 3)],
    [("x" * 300, 1), ("-", 1), ("--", 1), ("0" * 40, 7)],
]


class Words(unittest.TestCase):
    def test_a_word_is_a_longest_run(self):
        self.assertEqual(words("az09-x  -"), [("az09-x", 0), ("-", 0)])
        self.assertEqual(words("\n\n a\n"), [("a", 2)])
        self.assertEqual(words("   \n \n"), [])
        self.assertEqual(words("z" * 5000), [("z" * 5000, 0)])

    def test_a_remark_parts_words_and_hides_its_line_alone(self):
        self.assertEqual(words("a#b c\nd"), [("a", 0), ("d", 1)])
        self.assertEqual(words("#\n##\nx # A.B # {"), [("x", 2)])

    def test_bad_signs(self):
        plain = "abcdefghijklmnopqrstuvwxyz0123456789- #\n"
        for code in range(32, 127):
            if chr(code) in plain:
                continue
            for text in (chr(code), "a" + chr(code) + "b", "a # b\n " + chr(code) + "\n.", "\n\n" + chr(code)):
                with self.subTest(text=text), self.assertRaises(BadText) as caught:
                    words(text)
                at = text.split("\n").index([own for own in text.split("\n") if chr(code) in own][0])
                self.assertEqual(caught.exception.line, at)
            self.assertEqual(words("a #" + chr(code)), [("a", 0)])

    def test_the_first_bad_line_is_told(self):
        with self.assertRaises(BadText) as caught:
            words("a # A\nb\nc C\nD")
        self.assertEqual(caught.exception.line, 2)

    def test_every_short_text_against_a_walk_by_signs(self):
        for size in range(6):
            for signs in product("a- #\n", repeat=size):
                text = "".join(signs)
                self.assertEqual(words(text), walked(text), repr(text))

    def test_a_new_list(self):
        self.assertIsNot(words("a"), words("a"))
        self.assertIs(type(words("a")[0]), tuple)


def walked(text):
    """The words of a text without bad signs, sign by sign."""
    found, line, word, hidden = [], 0, "", False
    for sign in text + "\n":
        hidden = hidden or sign == "#"
        if sign in "\n #" or hidden:
            found += [(word, line)] if word else []
            word = ""
        else:
            word += sign
        if sign == "\n":
            line, hidden = line + 1, False
    return found


class TextOf(unittest.TestCase):
    def test_each_word_in_its_line(self):
        self.assertEqual([text_of(own) for own in MADE[:3]], ["", "a\n", "\n\n\n\n\na\n"])
        self.assertEqual(text_of(MADE[3]), "web -1\n07-\n")
        self.assertEqual(text_of(MADE[4]), "a b\n\nc d\ne\n")
        self.assertEqual(text_of([("a", 1000)]), "\n" * 1000 + "a\n")

    def test_words_tells_just_these(self):
        for made in MADE:
            self.assertEqual(words(text_of(made)), made)

    def test_blanks_remarks_and_line_breaks(self):
        for made in MADE:
            text = text_of(made)
            self.assertEqual(words("  " + text.replace(" ", "   ").replace("\n", "  # A b\n")), made)
            for at, sign in enumerate(text):
                if sign == " ":
                    later = len(words(text[:at]))
                    moved = made[:later] + [(word, line + 1) for word, line in made[later:]]
                    self.assertEqual(words(text[:at] + "\n" + text[at + 1 :]), moved)

    def test_lists_and_tuples_and_names(self):
        made = [["a", 0], ["b", 2]]
        self.assertEqual(text_of(made), "a\n\nb\n")
        self.assertEqual(made, [["a", 0], ["b", 2]])
        self.assertEqual(text_of(words=tuple(MADE[4])), text_of(listed(tuple(MADE[4]))))

    def test_no_words(self):
        wrong = [
            None,
            "a",
            [("a", 1), ("b", 0)],
            [("", 0)],
            [("A", 0)],
            [("a b", 0)],
            [("a#", 0)],
            [("a", -1)],
            [("a", True)],
            [("a", None)],
            [(1, 0)],
            [("a",)],
            [("a", 0, 0)],
            ["ab"],
        ]
        for made in wrong:
            with self.subTest(made=made), self.assertRaises(Unfit):
                text_of(made)


class Numbers(unittest.TestCase):
    def test_number_words(self):
        for number in (0, 1, -1, 9, 10, -10, 120, 10**11, 10**12 - 1, 1 - 10**12):
            self.assertEqual(number_of(word_of(number)), number)
            self.assertEqual(word_of(number), str(number))
        self.assertEqual(number_of(word="5"), 5)
        self.assertEqual(word_of(number=-5), "-5")

    def test_what_is_none(self):
        wrong = "|-|--1|1-|00|07|-07|-0|+1|a|1a|-a|1 | 1|1\n|1_0|1.0|0x1|\u0661|\u00b2|1000000000000|-1000000000000"
        for word in wrong.split("|"):
            with self.subTest(word=word):
                self.assertIsNone(number_of(word))

    def test_twelve_figures_at_most(self):
        self.assertEqual(number_of("9" * 12), 10**12 - 1)
        self.assertEqual(number_of("-" + "9" * 12), 1 - 10**12)
        self.assertIsNone(number_of("9" * 13))
        self.assertIsNone(number_of("1" * 100000))


if __name__ == "__main__":
    unittest.main()
