"""is_judge, accepts and language_of; learned and judge_of."""

import random
import unittest

from judged import (conditions, drawn_judges, otherwise, plain_accepts, plain_is_judge, plain_least_judge, words)
from piecesseen.errors import BadView
from piecesseen.forbidding import accepts, is_judge, judge_of, language_of, learned
from piecesseen.languages import Language
from piecesseen.makers import beginning, ending, finite, having, lengths
from plain import ODD_STRINGS, PlainCase, languages, odd_values, texts

SOME = (2, ("", "a", "b"), ("a", "b"), ("a", "b"), ("aa", "ab", "ba"))
GREAT = 10 ** 39 + 7


class IsJudgeTest(PlainCase):
    def test_right_judges(self):
        self.assertIs(is_judge("ab", SOME), True)
        self.assertIs(is_judge(thing=SOME, letters="abc"), True)
        for letters in ("a", "ab", "bcd"):
            for judge in drawn_judges(letters, 71, 100):
                self.assertIs(is_judge(letters, judge), True)
        for width in (1, 2, 7, GREAT):
            self.assertIs(is_judge("ab", (width, (), (), (), ())), True)
        self.assertIs(is_judge("ab", (1, ("",), ("",), ("",), ("a", "b"))), True)
        self.assertIs(is_judge("ab", (GREAT, ("", "b", "ab", "a" * 2000), (), (), ())), True)
        self.assertIs(is_judge("ab", (2001, ("b",), ("a" * 2000,), ("a" * 1999 + "b",), ())), True)

    def test_with_one_thing_otherwise(self):
        fillers = ["b", "ab", "ba", "aab", "c", "A", ("a",), ("b", "a"), ("aa", "b"), ("b", "aa"), ("ab", "aa"), 2, 3]
        for letters in ("a", "ab"):
            for judge in [SOME, *drawn_judges(letters, 72, 25), (1, ("",), ("",), (), ("a",))]:
                for thing in otherwise(judge, fillers):
                    self.assertIs(is_judge(letters, thing), plain_is_judge(letters, thing), thing)

    def test_wrong_judges(self):
        wrong = [
            (0, (), (), (), ()), (-1, (), (), (), ()), (True, (), (), (), ()), (None, (), (), (), ()),
            ("2", (), (), (), ()), (2, ("ab",), (), (), ()), (2, ("a", ""), (), (), ()), (3, ("aa", "b"), (), (), ()),
            (2, ("", ""), (), (), ()), (2, ("c",), (), (), ()), (2, (), ("",), (), ()), (2, (), ("aa",), (), ()),
            (2, (), ("b", "a"), (), ()), (2, (), ("a", "a"), (), ()), (2, (), ("c",), (), ()),
            (2, (), (), ("",), ()), (2, (), (), ("b", "a"), ()), (2, (), (), ("c",), ()), (2, (), (), (), ("a",)),
            (2, (), (), (), ("aaa",)), (2, (), (), (), ("ab", "aa")), (2, (), (), (), ("aa", "aa")),
            (2, (), (), (), ("ac",)), (2, None, (), (), ()), (2, (), None, (), ()), (2, (), (), None, ()),
            (2, (), (), (), None), (2, [], (), (), ()), (2, (), [], (), ()), (2, (), (), [], ()), (2, (), (), (), []),
            [2, (), (), (), ()], (2, (), (), ()), (2, (), (), (), (), ()), (2, (True,), (), (), ()), (2, "", (), (), ()),
            (2, (None,), (), (), ()), (2, (("a",),), (), (), ()), (1, ("a",), (), (), ()), (2, (), {}, (), ()),
            (2, (BadView("a"),), (), (), ()), (GREAT, (), ("a",), (), ()), (2, (), (), (), ("AB",)),
        ]
        for thing in wrong:
            self.assertIs(is_judge("ab", thing), False, thing)

    def test_values_of_every_other_kind(self):
        for thing in [*odd_values(), *ODD_STRINGS]:
            self.assertIs(is_judge("ab", thing), False)


class LanguageOfTest(PlainCase):
    def assert_accepted(self, letters, judge, longest):
        language = language_of(letters, judge)
        self.assertIs(language.__class__, Language)
        self.assertEqual(language.letters, letters)
        for text in texts(letters, longest):
            answer = accepts(judge, text)
            self.assertIs(answer, plain_accepts(letters, judge, text))
            self.assertIs(text in language, answer)

    def test_all_short_texts(self):
        for letters, longest in (("a", 9), ("ab", 8), ("bcd", 5)):
            for judge in drawn_judges(letters, 73, 120):
                self.assert_accepted(letters, judge, longest)
        for judge in drawn_judges("wxyz", 74, 20):
            self.assert_accepted("wxyz", judge, 4)

    def test_entries_to_which_no_text_comes(self):
        for judge in ((2, (), ("a",), ("b",), ("aa", "bb")), (2, (), ("b",), ("b",), ("aa", "ab")),
                      (3, ("a",), ("ab", "bb"), (), ("abb", "bba")), (2, (), (), ("a", "b"), ("aa",)),
                      (3, (), ("aa",), ("aa",), ("aab", "abb")), (1, (), ("",), ("",), ()), (1, (), ("",), (), ("a",)),
                      (1, ("",), (), ("",), ("a",)), (1, (), ("",), ("",), ("a",)), (1, ("",), ("",), ("",), ("b",))):
            self.assert_accepted("ab", judge, 8)

    def test_short_texts_are_not_the_beginnings_of_others(self):
        judge = (3, ("ab",), ("ba",), ("ab",), ("baa", "aab"))
        self.assertEqual([text for text in texts("ab", 6) if accepts(judge, text)], ["ab", "baab"])
        self.assertEqual(language_of("ab", judge), finite("ab", "ab", "baab"))

    def test_letters_that_no_entry_has(self):
        judge = (1, ("",), ("",), ("",), ("b",))
        self.assertEqual(language_of(judge=judge, letters="abc"), ~having("abc", "a") - having("abc", "c"))
        self.assertIs(accepts(text="bab", judge=judge), False)
        self.assertIs(accepts(text="bbb", judge=judge), True)

    def test_a_great_k(self):
        for width in (13, 2001, GREAT):
            for held in ((), ("",), ("", "b", "aab", "abaabbab")):
                judge = (width, held, (), (), ())
                self.assertEqual(language_of("ab", judge), finite("ab", *held))
                for text in texts("ab", 8):
                    self.assertIs(accepts(judge, text), text in held)
                self.assertIs(accepts(judge, "a" * 2000), False)
        text = "ab" * 500 + "b" * 1000
        self.assertIs(accepts((GREAT, (text,), (), (), ()), text), True)
        language = language_of("ab", (GREAT, (text,), (), (), ()))
        self.assertEqual((len(language), text in language, text[1:] in language), (2002, True, False))

    def test_long_pieces(self):
        judge = (50, (), ("a" * 49,), ("a" * 48 + "b",), ("a" * 50, "a" * 49 + "b"))
        language = language_of("ab", judge)
        for many in range(120):
            for text in ("a" * many, "a" * many + "b", "a" * many + "ba"):
                wanted = text.endswith("b") and many >= 49
                self.assertIs(accepts(judge, text), wanted)
                self.assertIs(text in language, wanted)

    def test_the_greatest_judges(self):
        chance = random.Random(75)
        for letters, width in (("ab", 8), ("abcd", 4), ("abc", 5), ("a", 8)):
            held = ["".join(chance.choice(letters) for _ in range(chance.choice((2000, 40, 5)))) for _ in range(12)]
            judge = learned(width, *held)
            language = language_of(letters, judge)
            for text in held + [text[:-1] for text in held] + [text[3:] for text in held] + [text[::-1] for text in held]:
                wanted = plain_accepts(letters, judge, text)
                self.assertIs(accepts(judge, text), wanted)
                self.assertIs(text in language, wanted)
            self.assertTrue(all(text in language for text in held))


class LearnedTest(PlainCase):
    def test_window_by_window(self):
        chance = random.Random(76)
        for letters in ("a", "ab", "bcd", "wxyz"):
            for _ in range(40):
                held = ["".join(chance.choice(letters) for _ in range(chance.randint(0, 9)))
                        for _ in range(chance.randint(0, 6))]
                for width in range(1, 5):
                    judge = learned(width, *held)
                    self.assertEqual(judge, plain_least_judge(letters, held, width))
                    self.assertIs(is_judge(letters, judge), True)
                    self.assertTrue(all(accepts(judge, text) for text in held))
                    self.assertEqual(learned(width, *held[::-1]), judge)
                    self.assertEqual(learned(width, *held, *held), judge)

    def test_without_any_entry_some_text_is_not_accepted(self):
        held = ["", "ab", "b", "abab", "bbaa", "aaab", "bab"]
        for width in (1, 2, 3, 4):
            judge = learned(width, *held)
            for place in range(1, 5):
                for at in range(len(judge[place])):
                    less = judge[place][:at] + judge[place][at + 1:]
                    smaller = judge[:place] + (less,) + judge[place + 1:]
                    self.assertFalse(all(accepts(smaller, text) for text in held))

    def test_few_texts(self):
        for width in range(1, 9):
            self.assertEqual(learned(width), (width, (), (), (), ()))
            self.assertEqual(learned(width=width), (width, (), (), (), ()))
            self.assertEqual(learned(width, ""), (width, ("",), (), (), ()))
        self.assertEqual(learned(1, "ba"), (1, (), ("",), ("",), ("a", "b")))
        self.assertEqual(learned(2, "b", "", "a", "b"), (2, ("", "a", "b"), (), (), ()))
        self.assertEqual(learned(4, "b", "aba", "aa"), (4, ("b", "aa", "aba"), (), (), ()))

    def test_long_texts(self):
        chance = random.Random(77)
        held = ["".join(chance.choice("ab") for _ in range(2000)) for _ in range(5)]
        for width in (1, 5, 8):
            self.assertEqual(learned(width, *held), plain_least_judge("ab", held, width))


class JudgeOfTest(PlainCase):
    def assert_judge(self, language, width, longest):
        """The judge is that of all texts up to a length in which all its entries occur."""
        held = [text for text in texts(language.letters, longest) if text in language]
        self.assertEqual(judge_of(language, width), plain_least_judge(language.letters, held, width))

    def test_all_short_texts(self):
        for letters, longest, most in (("a", 16, 6), ("ab", 9, 3), ("bcd", 6, 2)):
            found = conditions(78, 12, letters) + languages(79, 25, letters, 3)
            for language in [language for language in found if letters == "a" or len(language) <= 4]:
                for width in range(1, most + 1):
                    self.assert_judge(language, width, longest)

    def test_languages_without_texts_and_with_all(self):
        for letters in ("a", "ab", "wxyz"):
            for width in (1, 2, 3, 4):
                self.assertEqual(judge_of(finite(letters), width), (width, (), (), (), ()))
                self.assertEqual(judge_of(finite(letters, ""), width), (width, ("",), (), (), ()))
                every = tuple(text for text in texts(letters, width - 1))
                self.assertEqual(judge_of(~finite(letters), width), (
                    width, every, *[tuple(words(letters, length)) for length in (width - 1, width - 1, width)]))

    def test_finite_languages_are_learned_alike(self):
        for held in (["", "a", "abba"], ["bab", "bb", "abababab"], ["a" * 12, "b"]):
            for width in range(1, 9):
                self.assertEqual(judge_of(finite("ab", *held), width), learned(width, *held))
        self.assertEqual(judge_of(width=1, language=finite("ab", "b")), (1, (), ("",), ("",), ("b",)))

    def test_the_empty_text_alone_is_no_long_text(self):
        # For k = 1 the first and the last letters are none; they count for texts of some letter alone.
        self.assertEqual(judge_of(finite("ab", ""), 1), (1, ("",), (), (), ()))
        self.assertEqual(judge_of(lengths("ab", 2, (1,)), 1), (1, (), ("",), ("",), ("a", "b")))
        self.assertEqual(judge_of(finite("ab", "a"), 2), (2, ("a",), (), (), ()))

    def test_great_languages(self):
        ring = Language("ab", tuple(((state + 1) % 300, 7 * state % 300) for state in range(300)), (7,))
        judge = judge_of(ring, 8)
        self.assertIs(is_judge("ab", judge), True)
        for text in [text for text in texts("ab", 11) if text in ring]:
            self.assertIs(accepts(judge, text), True)
        self.assertEqual(len(judge[4]), 256)
        fifth = beginning("abcd", "abca") & ending("abcd", "dd") & ~having("abcd", "bb")
        self.assertEqual(judge_of(fifth, 4)[1:4], ((), ("abc",), tuple(
            word for word in words("abcd", 3) if word.endswith("dd") and word != "bbd")))
        self.assertEqual(judge_of(fifth, 4)[4], tuple(word for word in words("abcd", 4) if "bb" not in word))


if __name__ == "__main__":
    unittest.main()
