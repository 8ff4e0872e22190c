"""Language(letters, rows, ends) with any values: which part is told, and that nothing is changed."""

import copy
import unittest

from piecesseen.errors import BadLanguage
from piecesseen.languages import Language
from plain import ODD_STRINGS, PlainCase, odd_values

ROWS = ((0, 1), (1, 0))
WRONG_LETTERS = ("", "ba", "aa", "abcde", "AB", "a1", "ab\n", b"ab", bytearray(b"ab"))


def wrong_rows():
    """Values that are no rows of a machine over two letters."""
    return [
        [[0, 1], [1, 0]], [(0, 1), (1, 0)], ([0, 1], (1, 0)), ((0, 1), [1, 0]), ((0, 1), None), ((0, 1), "01"),
        ((0, 1), ()), ((0, 1), (1,)), ((0, 1), (1, 0, 0)), ((0,), (1, 0)), ((), ()), ((),), (((0, 1), (1, 0)),),
        ((0, 1), (1, 2)), ((0, 1), (-1, 0)), ((2, 1), (1, 0)), ((0, 1), (1, 10 ** 39)), ((0, 1), (-10 ** 39, 0)),
        ((0, 1), (True, 0)), ((False, 1), (1, 0)), ((0, 1), (1, None)), ((0, 1), ("1", 0)), ((0, 1), ((1,), 0)),
        ((0, 1), (1.0, 0)), ((0, 1), {0: 1, 1: 0}), ((0, 1), {1, 0}), ((0, 1), 1), (0, 1), ((1, 1),),
        ((0, 1), (Language("ab", ROWS, ()), 0)), (Language("ab", ROWS, ()),), {0: (0, 1), 1: (1, 0)},
        tuple((number, number) for number in range(1, 30001)),
    ]


def wrong_ends():
    """Values that are no ends of a machine with two states."""
    return [
        [0], [], {0}, {0: True}, (1, 0), (0, 0), (1, 1), (0, 1, 1), (0, 1, 0), (2,), (0, 2), (-1,), (-1, 0), (True,),
        (False,), (0, True), (False, True), ("0",), (None,), ((0,),), ((),), (0.0,), (0, None), (10 ** 39,), "0", "",
        0, 1, None, range(2), (Language("ab", ROWS, ()),), tuple(range(60000)),
    ]


class PartsTest(PlainCase):
    def wrong(self, part, letters, rows, ends):
        self.assert_error(BadLanguage, "part", part, Language, letters, rows, ends)
        self.assert_error(BadLanguage, "part", part, Language, ends=ends, rows=rows, letters=letters)

    def test_letters(self):
        for letters in [*odd_values(), *ODD_STRINGS, *WRONG_LETTERS]:
            self.wrong("letters", letters, ROWS, (0,))

    def test_rows(self):
        for rows in [*odd_values(), *ODD_STRINGS, *wrong_rows()]:
            self.wrong("rows", "ab", rows, ())

    def test_rows_for_other_letters(self):
        self.wrong("rows", "a", ROWS, ())
        self.wrong("rows", "abc", ROWS, ())
        self.wrong("rows", "abcd", ((0, 0, 0),), ())

    def test_ends(self):
        for ends in [*[thing for thing in odd_values() if thing != () and thing != (0,)], *ODD_STRINGS, *wrong_ends()]:
            self.wrong("ends", "ab", ROWS, ends)

    def test_the_first_wrong_part_is_told(self):
        for rows in [ROWS, *wrong_rows()]:
            for ends in [(), *wrong_ends()]:
                self.wrong("letters", "ba", rows, ends)
        for rows in wrong_rows():
            for ends in wrong_ends():
                self.wrong("rows", "ab", rows, ends)

    def test_right_parts(self):
        for ends in ((), (0,), (1,), (0, 1)):
            by_position = Language("ab", ROWS, ends)
            self.assertEqual(by_position.letters, "ab")
            self.assertEqual(by_position, Language(ends=ends, letters="ab", rows=ROWS))
        self.assertEqual(len(Language("a", ((0,),), ())), 1)
        self.assertEqual(len(Language("wxyz", ((0, 1, 0, 0), (1, 1, 1, 0)), (1,))), 2)

    def test_what_is_passed_stays(self):
        for rows in [ROWS, ((1, 1), (0, 2), (2, 2)), *wrong_rows()[:12]]:
            for ends in [(), (0,), (0, 1), *wrong_ends()[:6]]:
                before = copy.deepcopy((rows, ends))
                try:
                    Language("ab", rows, ends)
                except BadLanguage:
                    pass
                self.assertEqual((rows, ends), before)


if __name__ == "__main__":
    unittest.main()
