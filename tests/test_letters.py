"""is_letters and is_text."""

import itertools
import string
import unittest

from piecesseen.languages import is_letters, is_text
from plain import ODD_STRINGS, odd_values


class LettersTest(unittest.TestCase):
    def test_letters(self):
        for many in range(1, 5):
            for signs in itertools.combinations("abmyz", many):
                self.assertIs(is_letters("".join(signs)), True)
        for sign in string.ascii_lowercase:
            self.assertIs(is_letters(sign), True)
        self.assertIs(is_letters(thing="ab"), True)

    def test_strings_that_are_no_letters(self):
        wrong = ("", "ba", "aa", "aab", "abb", "abca", "acb", "abcde", "abcdefghijklmnopqrstuvwxyz", "Ab", "aB", "AB",
                 "a-b", "ab ", " ab", "a\nb", "ab\n", "a{", "`a", "01", "a1", "1a", "a" * 2000, "\u00e9", "a\u00e9")
        for thing in [*wrong, *ODD_STRINGS]:
            self.assertIs(is_letters(thing), False, thing)
            self.assertIs(is_letters(thing=thing), False)

    def test_other_values_are_no_letters(self):
        for thing in odd_values():
            self.assertIs(is_letters(thing), False)


class TextTest(unittest.TestCase):
    def test_texts(self):
        for letters in ("a", "z", "ab", "bd", "abc", "wxyz"):
            for length in range(4):
                for signs in itertools.product(letters, repeat=length):
                    self.assertIs(is_text(letters, "".join(signs)), True)
            self.assertIs(is_text(letters, letters[-1] * 2000), True)
        self.assertIs(is_text(letters="ab", thing=""), True)

    def test_strings_that_are_no_texts(self):
        for thing in ["c", "abc", "cab", "bbbbc", "a" * 1999 + "c", *[text for text in ODD_STRINGS if text != "a"]]:
            self.assertIs(is_text("ab", thing), False, thing)
        self.assertIs(is_text("bd", "bcd"), False)
        self.assertIs(is_text(letters="b", thing="a"), False)

    def test_other_values_are_no_texts(self):
        for letters in ("a", "ab", "abcd"):
            for thing in odd_values():
                self.assertIs(is_text(letters, thing), False)


if __name__ == "__main__":
    unittest.main()
