"""The operators and methods that make languages, beside plain Python over all short texts."""

import unittest

from piecesseen.errors import BadLanguage, BadText, OtherLetters
from piecesseen.languages import Language
from piecesseen.makers import beginning, finite, having
from plain import ODD_STRINGS, PlainCase, languages, listed, odd_values, texts

LONGEST = {"a": 9, "ab": 6, "bcd": 4}


def parts_of(language):
    return language.letters, language.rows, language.ends


def splits(text):
    return [(text[:place], text[place:]) for place in range(len(text) + 1)]


def starred_texts(letters, held, longest):
    """The texts that consist of texts of a language, by plain Python."""
    found = {""}
    for text in texts(letters, longest):
        if any(head in found and tail in held and tail for head, tail in splits(text)):
            found.add(text)
    return [text for text in texts(letters, longest) if text in found]


class OperatorsTest(PlainCase):
    def test_two_languages(self):
        for letters, longest in LONGEST.items():
            every = texts(letters, longest)
            found = languages(21, 14, letters, 4)
            for one in found:
                mine = set(listed(one, longest))
                for other in found:
                    before = parts_of(one), parts_of(other)
                    others = set(listed(other, longest))
                    self.assertEqual(set(listed(one | other, longest)), mine | others)
                    self.assertEqual(set(listed(one & other, longest)), mine & others)
                    self.assertEqual(set(listed(one - other, longest)), mine - others)
                    joined = [text for text in every if any(a in mine and b in others for a, b in splits(text))]
                    self.assertEqual(listed(one + other, longest), joined)
                    for made in (one | other, one & other, one - other, one + other):
                        self.assertIs(made.__class__, Language)
                        self.assertEqual(made.letters, letters)
                        self.assertEqual(parts_of(Language(*parts_of(made))), parts_of(made))
                    self.assertEqual((parts_of(one), parts_of(other)), before)

    def test_is_part_of(self):
        # Two machines with at most 4 states differ, if they do, on a text with at most 8 letters.
        found = languages(22, 20, "ab", 4) + [finite("ab"), ~finite("ab")]
        for one in found:
            for other in found:
                inside = set(listed(one, 8)) <= set(listed(other, 8))
                self.assertIs(one <= other, inside)
                self.assertIs(other >= one, inside)
                self.assertIs(one <= (one | other), True)
                self.assertIs((one & other) <= one, True)

    def test_one_language(self):
        for letters, longest in LONGEST.items():
            every = texts(letters, longest)
            for one in languages(23, 40, letters, 5):
                before = parts_of(one)
                held = listed(one, longest)
                self.assertEqual(listed(~one, longest), [text for text in every if text not in held])
                self.assertEqual(~~one, one)
                self.assertEqual(listed(one.turned(), longest), [text for text in every if text[::-1] in held])
                self.assertEqual(one.turned().turned(), one)
                self.assertEqual(listed(one.starred(), longest), starred_texts(letters, held, longest))
                self.assertEqual(one.starred().starred(), one.starred())
                for made in (~one, one.turned(), one.starred()):
                    self.assertIs(made.__class__, Language)
                    self.assertEqual(made.letters, letters)
                    self.assertEqual(parts_of(Language(*parts_of(made))), parts_of(made))
                self.assertEqual(parts_of(one), before)

    def test_empty_and_full(self):
        none, empty, every = finite("ab"), finite("ab", ""), ~finite("ab")
        self.assertEqual((none.starred(), empty.starred(), every.starred()), (empty, empty, every))
        self.assertEqual((none.turned(), empty.turned(), every.turned()), (none, empty, every))
        for one in (none, empty, every, having("ab", "ab"), finite("ab", "a", "bb")):
            self.assertEqual((none + one, one + none), (none, none))
            self.assertEqual((empty + one, one + empty), (one, one))
            self.assertEqual((one | none, one & every, one - none, one - one), (one, one, one, none))
        self.assertEqual(finite("ab", "a").starred() & finite("ab", "", "b", "aa"), finite("ab", "", "aa"))
        self.assertEqual((every + finite("ab", "b")).turned(), beginning("ab", "b"))

    def test_behind(self):
        for letters, longest in LONGEST.items():
            for one in languages(24, 15, letters, 5):
                before = parts_of(one)
                for text in texts(letters, 2) + [letters * 4, letters[0] * 12]:
                    wanted = [tail for tail in texts(letters, longest) if text + tail in one]
                    self.assertEqual(listed(one.behind(text), longest), wanted)
                    self.assertEqual(one.behind(text=text), one.behind(text))
                    self.assertEqual(one.behind(text).letters, letters)
                self.assertEqual(one.behind(""), one)
                self.assertEqual(parts_of(one), before)

    def test_behind_what_is_no_text(self):
        language = having("ab", "b")
        for thing in [*odd_values(), *ODD_STRINGS, "c", "abc"]:
            if thing != "a":
                self.assert_error(BadText, "value", thing, language.behind, thing)
                self.assert_error(BadText, "value", thing, language.behind, text=thing)

    def test_with_letters(self):
        for letters, others in (("a", "z"), ("ab", "bc"), ("ab", "xz"), ("abc", "bcd"), ("abcd", "wxyz")):
            for one in languages(25, 12, letters, 5):
                before = parts_of(one)
                made = one.with_letters(others)
                self.assertEqual(made.letters, others)
                renamed = ["".join(others[letters.index(sign)] for sign in text) for text in listed(one, 4)]
                self.assertEqual(listed(made, 4), renamed)
                self.assertEqual(made, one.with_letters(letters=others))
                self.assertEqual(made.with_letters(letters), one)
                self.assertEqual(one.with_letters(letters), one)
                self.assertEqual(parts_of(one), before)

    def test_with_what_is_no_letters_of_this_number(self):
        language = having("ab", "b")
        wrong = [*odd_values(), *ODD_STRINGS, "", "a", "b", "abc", "abcd", "ba", "aa", "AB", "a1", "ab\n"]
        for thing in wrong:
            self.assert_error(BadLanguage, "part", "letters", language.with_letters, thing)
            self.assert_error(BadLanguage, "part", "letters", language.with_letters, letters=thing)

    def test_other_letters(self):
        one = having("ab", "b")
        for other in (having("ac", "c"), having("a", "a"), having("abc", "b"), having("bc", "b"), finite("b")):
            for left, right in ((one, other), (other, one)):
                self.assert_error(OtherLetters, None, None, lambda: left | right)
                self.assert_error(OtherLetters, None, None, lambda: left & right)
                self.assert_error(OtherLetters, None, None, lambda: left - right)
                self.assert_error(OtherLetters, None, None, lambda: left + right)
                self.assert_error(OtherLetters, None, None, lambda: left <= right)


if __name__ == "__main__":
    unittest.main()
