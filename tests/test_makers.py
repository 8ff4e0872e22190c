"""finite, having, beginning, ending and lengths, beside plain Python over all short texts."""

import unittest

from piecesseen.errors import BadLanguage, BadText
from piecesseen.languages import Language
from piecesseen.makers import beginning, ending, finite, having, lengths
from plain import ODD_STRINGS, PlainCase, listed, odd_values, texts

WRONG_LETTERS = ("", "ba", "aa", "abcde", "AB", "a1", "ab\n")
WRONG_TEXTS = [*[text for text in ODD_STRINGS if text != "a"], "c", "abc", "AB"]


def places(piece, text):
    """The number of places at which a piece stands, overlapping ones too."""
    return sum(text.startswith(piece, place) for place in range(len(text)))


class MakersTest(PlainCase):
    def assert_texts(self, language, letters, longest, holds):
        self.assertIs(language.__class__, Language)
        self.assertEqual(language.letters, letters)
        self.assertEqual(listed(language, longest), [text for text in texts(letters, longest) if holds(text)])

    def test_finite(self):
        for held in ([], [""], ["a"], ["", "b", "ab"], ["abba", "ab", "ab", "b"], ["aaaaaa", "bbbbbb", "ababab"]):
            self.assert_texts(finite("ab", *held), "ab", 7, lambda text: text in held)
            self.assertEqual(list(finite("ab", *held).in_order()), sorted(set(held), key=lambda text: (len(text), text)))
            self.assertEqual(finite("ab", *reversed(held)), finite("ab", *held))
        self.assert_texts(finite("bcd", "dcb", "b"), "bcd", 4, lambda text: text in ("dcb", "b"))

    def test_finite_without_texts(self):
        for letters in ("a", "ab", "wxyz"):
            self.assertEqual(finite(letters), Language(letters, ((0,) * len(letters),), ()))
            self.assertEqual(finite(letters=letters), finite(letters))

    def test_having(self):
        for letters, pieces in (("a", ("a", "aa", "aaa")), ("ab", ("b", "ab", "aa", "aba", "abab", "bb")),
                                ("bcd", ("c", "cbc", "dd"))):
            longest = 10 if letters == "a" else 8 if letters == "ab" else 5
            for piece in pieces:
                self.assertEqual(having(letters, piece), having(letters, piece, 1))
                for least in range(7):
                    language = having(letters, piece, least)
                    self.assert_texts(language, letters, longest, lambda text: places(piece, text) >= least)
                    self.assertEqual(having(least=least, piece=piece, letters=letters), language)

    def test_having_none_is_no_bound(self):
        self.assertEqual(having("ab", "b", 0), ~finite("ab"))

    def test_having_often(self):
        self.assertNotIn("aab" * 5, having("ab", "ba", 6))
        self.assertIn("a" * 7, having("ab", "aa", 6))
        self.assertNotIn("a" * 6, having("ab", "aa", 6))

    def test_beginning_and_ending(self):
        for letters, longest in (("a", 8), ("ab", 7), ("bcd", 5)):
            for known in [text for text in texts(letters, 3)] + [letters[-1] + letters * 2]:
                begun, ended = beginning(letters, known), ending(letters, known)
                self.assert_texts(begun, letters, longest, lambda text: text.startswith(known))
                self.assert_texts(ended, letters, longest, lambda text: text.endswith(known))
                self.assertEqual((beginning(letters=letters, text=known), ending(letters=letters, text=known)),
                                 (begun, ended))
            self.assertEqual(beginning(letters, ""), ~finite(letters))
            self.assertEqual(ending(letters, ""), ~finite(letters))
        self.assert_texts(ending("ab", "abaab"), "ab", 9, lambda text: text.endswith("abaab"))

    def test_lengths(self):
        for letters, longest in (("a", 30), ("ab", 7), ("bcd", 5)):
            for period in range(1, 13):
                every = tuple(range(period))
                for rests in ((), (0,), (period - 1,), every, every[::2], every[1::3]):
                    language = lengths(letters, period, rests)
                    self.assert_texts(language, letters, longest, lambda text: len(text) % period in rests)
                    self.assertEqual(lengths(rests=rests, period=period, letters=letters), language)
        self.assertEqual(lengths("ab", 4, (5, 6)), finite("ab"))

    def test_the_longest_texts(self):
        held = ["abab" * 3, "b" * 12, "a" * 12, "ba" * 6, "aab" * 4, "", "abba" * 3, "bbaa" * 3, "abb" * 4, "b", "ab" * 5,
                "bab" * 4]
        language = finite("ab", *held)
        self.assertEqual(list(language.in_order()), sorted(held, key=lambda text: (len(text), text)))
        wide = ["".join("wxyz"[(seed * place + place * place // 3) % 4] for place in range(12)) for seed in range(12)]
        self.assertEqual(list(finite("wxyz", *wide).in_order()), sorted(set(wide)))
        for piece in ("a" * 12, "abaababaabaa", "ab" * 6):
            self.assertTrue(beginning("ab", piece) & finite("ab", piece) == finite("ab", piece))
            for tail in texts("ab", 5):
                self.assertIs(tail + piece + tail in ending("ab", piece), (tail + piece + tail).endswith(piece))
                text = piece + tail + piece[:7] + piece
                self.assertIs(text in having("ab", piece, 3), places(piece, text) >= 3)
        self.assertIn("ab" * 1000, having("ab", "ab" * 6, 6))
        self.assertEqual(len(having("ab", "a" * 12, 6)), 6 * 12 + 1)


class WrongArgumentsTest(PlainCase):
    def calls(self, letters, text):
        """Calls of all makers that take a text, by position and by name."""
        return [
            lambda: finite(letters, text), lambda: finite(letters, "", text), lambda: finite(letters, text, text, ""),
            lambda: having(letters, text), lambda: having(letters, text, 3), lambda: having(letters, text, 0),
            lambda: having(least=2, piece=text, letters=letters),
            lambda: beginning(letters, text), lambda: beginning(text=text, letters=letters),
            lambda: ending(letters, text), lambda: ending(text=text, letters=letters),
        ]

    def test_letters_come_first(self):
        for letters in [*odd_values(), *[text for text in ODD_STRINGS if text != "a"], *WRONG_LETTERS]:
            for text in ("a", "A", None):
                for call in self.calls(letters, text):
                    self.assert_error(BadLanguage, "part", "letters", call)
            self.assert_error(BadLanguage, "part", "letters", finite, letters)
            self.assert_error(BadLanguage, "part", "letters", finite, letters=letters)
            self.assert_error(BadLanguage, "part", "letters", lengths, letters, 2, (0,))
            self.assert_error(BadLanguage, "part", "letters", lengths, rests=(), period=1, letters=letters)

    def test_texts(self):
        for thing in [*odd_values(), *WRONG_TEXTS]:
            for call in self.calls("ab", thing):
                self.assert_error(BadText, "value", thing, call)

    def test_the_first_wrong_text_is_told(self):
        for first, second in ((None, "c"), ("c", None), ("abc", 3), (3, "A"), (["a"], ("a",))):
            self.assert_error(BadText, "value", first, finite, "ab", "a", first, "b", second)
            self.assert_error(BadText, "value", second, finite, "ab", second, first)

    def test_an_empty_piece(self):
        for least in range(7):
            self.assert_error(BadText, "value", "", having, "ab", "", least)
            self.assert_error(BadText, "value", "", having, letters="ab", piece="", least=least)
        self.assert_error(BadText, "value", "", having, "ab", "")


if __name__ == "__main__":
    unittest.main()
