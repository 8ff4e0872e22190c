"""str(language) and Language.read."""

import unittest

from piecesseen.errors import BadLine
from piecesseen.languages import Language
from piecesseen.makers import finite, having
from plain import PlainCase, machines, odd_values

SOME_B = "letters ab\nends 1\n0 1\n1 1"
# Texts that are wrong, each with the number of the line that is told.
WRONG = [
    # nothing, or too few lines
    ("", 1), ("\n", 1), ("\n\n", 1), (" ", 1), ("letters ab", 2), ("letters ab\n", 2), ("letters ab\nends", 3),
    ("letters ab\nends 0", 3), ("letters ab\nends\n", 3), ("letters", 1), ("letters\nends\n0 0", 1),
    ("ends\n0 0", 1), ("0 0", 1), ("nothing of this", 1),
    # the letters
    ("letters ba\nends\n0 0", 1), ("letters aa\nends\n0 0", 1), ("letters abcde\nends\n0 0 0 0 0", 1),
    ("letters AB\nends\n0 0", 1), ("letters a b\nends\n0 0", 1), ("letters \nends\n0 0", 1),
    ("letters 1\nends\n0", 1), ("Letters ab\nends\n0 0", 1), ("letter ab\nends\n0 0", 1), ("ab\nends\n0 0", 1),
    ("letters ab extra\nends\n0 0", 1), ("lettersab\nends\n0 0", 1), ("letters ab,\nends\n0 0", 1),
    # the ends
    ("letters ab\nend\n0 0", 2), ("letters ab\nEnds\n0 0", 2), ("letters ab\n\n0 0", 2), ("letters ab\n0\n0 0", 2),
    ("letters ab\nends0\n0 0", 2), ("letters ab\nends 0 0\n0 0", 2), ("letters ab\nends 1 0\n0 1\n0 0", 2),
    ("letters ab\nends a\n0 0", 2), ("letters ab\nends 0,\n0 0", 2), ("letters ab\nends -1\n0 0", 2),
    ("letters ab\nends None\n0 0", 2), ("letters ab\nends True\n0 0", 2), ("letters ab\nends ()\n0 0", 2),
    # the targets
    ("letters ab\nends\n0", 3), ("letters ab\nends\n0 0 0", 3), ("letters ab\nends\n0 a", 3),
    ("letters ab\nends\n0 -1", 3), ("letters ab\nends\n0,0", 3), ("letters ab\nends\n0 0\n0", 4),
    ("letters ab\nends\n0 0\n\n0 0", 4), ("letters ab\nends\n\n0 0", 3), ("letters a\nends\n0 0", 3),
    ("letters abc\nends\n0 0 0\n0 0\n0 0 0", 4), ("letters ab\nends\n0 0\nends", 4),
    # blanks and line feeds too many
    (" letters ab\nends\n0 0", 1), ("letters  ab\nends\n0 0", 1), ("letters ab \nends\n0 0", 1),
    ("\nletters ab\nends\n0 0", 1), ("letters ab\n\nends\n0 0", 2), ("letters ab\nends \n0 0", 2),
    ("letters ab\n ends\n0 0", 2), ("letters ab\nends  0\n0 0", 2), ("letters ab\nends 0 \n0 0", 2),
    ("letters ab\nends\n 0 0", 3), ("letters ab\nends\n0  0", 3), ("letters ab\nends\n0 0 ", 3),
    ("letters ab\nends\n0 0\n", 4), ("letters ab\nends\n0 0\n\n", 4), ("letters ab\nends\n0 0\n ", 4),
    ("letters ab\tends\n0 0", 1), ("letters\tab\nends\n0 0", 1), ("letters ab\nends\n0\t0", 3),
    ("letters ab\r\nends\r\n0 0", 1), ("letters ab\nends\n0 0\r\n", 3), ("letters ab\nends\x0b0\n0 0", 2),
    # integers that Python writes otherwise, or with too many digits
    ("letters ab\nends 00\n0 0", 2), ("letters ab\nends 01\n0 0\n0 0", 2), ("letters ab\nends +0\n0 0", 2),
    ("letters ab\nends -0\n0 0", 2), ("letters ab\nends 0.0\n0 0", 2), ("letters ab\nends 0x0\n0 0", 2),
    ("letters ab\nends 1000000\n0 0", 2), ("letters ab\nends 0000000\n0 0", 2),
    ("letters ab\nends\n00 0", 3), ("letters ab\nends\n0 01\n0 0", 3), ("letters ab\nends\n0 +0", 3),
    ("letters ab\nends\n0 -0", 3), ("letters ab\nends\n0 1000000", 3), ("letters ab\nends\n0 1_0", 3),
    ("letters ab\nends\n0 \u0661", 3), ("letters ab\nends \u00b2\n0 0\n0 0\n0 0", 2), ("letters \u00e9\nends\n0", 1),
    # states without a line
    ("letters ab\nends 1\n0 0", 2), ("letters ab\nends 0 999999\n0 0", 2), ("letters ab\nends\n0 1", 3),
    ("letters ab\nends\n1 0", 3), ("letters ab\nends\n0 1\n0 2", 4), ("letters ab\nends\n0 1\n0 999999\n0 0", 4),
    # several faults: the forms of all lines come ahead of states without a line
    ("letters ba\nend\n0", 1), ("letters ab\nend\n0", 2), ("letters ab\nends 5\n0", 3),
    ("letters ab\nends 5\n0 0\n0 x", 4), ("letters ab\nends\n0 5\n0 0\n0", 5), ("letters ab\nends 5\n0 5\n0 0", 2),
    ("letters ab\nends 0\n0 5\n7 0", 3), ("letters ab\nends 5\n0 0\n", 4), ("letters ab\nends 7 5\n0 9", 2),
    ("letters ab\nends 1\n0 0 0\n0 1000000", 3), ("letters ab\nends 1000000\n0", 2),
    # 6 digits are a right form, so a wrong form further down is told
    ("letters ab\nends 100000 999999\n0", 3), ("letters ab\nends\n0 999999\n0", 4),
    ("letters ab\nends 1000000\n0 0\n0", 2), ("letters ab\nends\n0 1000000\n0", 3),
]


def text_of(letters, rows, ends):
    """The text of a machine, by plain Python."""
    lines = [("letters", letters), ("ends", *ends), *rows]
    return "\n".join(" ".join(str(word) for word in line) for line in lines)


class WrittenTest(PlainCase):
    def test_the_example(self):
        language = having("ab", "b")
        self.assertEqual(str(language), SOME_B)
        self.assertEqual(Language.read(SOME_B), language)
        self.assertEqual(Language.read(text=SOME_B), language)

    def test_without_ends(self):
        self.assertEqual(str(finite("ab")), "letters ab\nends\n0 0")
        self.assertEqual(Language.read("letters ab\nends\n0 0"), finite("ab"))
        self.assertEqual(str(finite("z", "")), "letters z\nends 0\n1\n1")

    def test_written_and_read_back(self):
        for letters in ("a", "ab", "bcd", "wxyz"):
            for machine in machines(31, 40, letters, 14):
                language = Language(*machine)
                self.assertEqual(str(language), text_of(letters, language.rows, language.ends))
                self.assertEqual(Language.read(str(language)), language)
                again = Language.read(str(language))
                self.assertEqual((again.rows, again.ends), (language.rows, language.ends))

    def test_machines_that_are_not_the_least_ones(self):
        for letters in ("a", "ab", "bcd"):
            for machine in machines(32, 40, letters, 14):
                self.assertEqual(Language.read(text_of(*machine)), Language(*machine))
        doubled = "letters ab\nends 1 3\n2 3\n1 3\n0 1\n3 1"
        self.assertEqual(Language.read(doubled), having("ab", "b"))
        self.assertEqual(str(Language.read(doubled)), SOME_B)

    def test_off_an_object(self):
        self.assertEqual(finite("a").read(SOME_B), having("ab", "b"))

    def test_wrong_lines(self):
        for text, line in WRONG:
            self.assert_error(BadLine, "line", line, Language.read, text)
            self.assert_error(BadLine, "line", line, Language.read, text=text)

    def test_what_is_no_string(self):
        for thing in [*odd_values(), b"letters ab\nends\n0 0", SOME_B.split("\n"), tuple(SOME_B.split("\n"))]:
            self.assert_error(BadLine, "line", 0, Language.read, thing)

    def test_each_letter_of_a_text_changed(self):
        # Each text is the text of a machine and read as this machine, or it is refused.
        for place in range(len(SOME_B)):
            for sign in " \nab019xX-":
                text = SOME_B[:place] + sign + SOME_B[place + 1:]
                try:
                    language = Language.read(text)
                except BadLine as error:
                    self.assertIn(error.line, (1, 2, 3, 4, 5))
                else:
                    lines = [line.split(" ") for line in text.split("\n")]
                    rows = tuple(tuple(int(word) for word in line) for line in lines[2:])
                    ends = tuple(int(word) for word in lines[1][1:])
                    self.assertEqual(text_of(lines[0][1], rows, ends), text)
                    self.assertEqual(language, Language(lines[0][1], rows, ends))

    def test_large_texts(self):
        rows = tuple(((state + 1) % 300, 7 * state % 300) for state in range(300))
        language = Language("ab", rows, (299,))
        self.assertEqual(Language.read(text_of("ab", rows, (299,))), language)
        self.assertEqual(Language.read(str(language)), language)
        self.assert_error(BadLine, "line", 1, Language.read, "\n" * 2000)
        self.assert_error(BadLine, "line", 2, Language.read, "letters ab\n" + "ends" * 490)


if __name__ == "__main__":
    unittest.main()
