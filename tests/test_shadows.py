"""shadow, core and common_view, beside a walk through views and states."""

import functools
import unittest

from asked import EVEN, SOME_B, TWO_B, found_languages
from judged import conditions, drawn, plain_view
from piecesseen.counting import is_counting
from piecesseen.errors import OtherLetters
from piecesseen.languages import Language
from piecesseen.makers import beginning, ending, finite, having, lengths
from piecesseen.shadows import common_view, core, shadow
from piecesseen.views import view_of
from plain import PlainCase, languages, run, texts

SIZES = {"a": [(1, 1), (3, 2), (8, 20)], "ab": [(1, 1), (1, 3), (2, 1), (2, 2), (3, 1)],
         "bcd": [(1, 1), (1, 2), (2, 1)],
         "abc": [(1, 1), (2, 1)], "wxyz": [(1, 1)]}
LONGEST = {"a": 40, "ab": 7, "abc": 5, "bcd": 5, "wxyz": 4}


def plain_walk(language, width, top):
    """For each view the answers for texts with this view, by a walk through views and states."""
    return walk_by_text(str(language), width, top)


@functools.cache
def walk_by_text(written, width, top):
    """The same for the language with a text, found once for all tests."""
    language = Language.read(written)
    letters = language.letters
    seen = {(("short", ""), 0): ""}
    waiting = list(seen)
    answers = {}
    for pair in waiting:
        text = seen[pair]
        answers.setdefault(pair[0], set()).add(text in language)
        for letter in letters:
            found = plain_view(letters, width, top, text + letter), run(letters, language.rows, 0, text + letter)
            if found not in seen:
                seen[found] = text + letter
                waiting.append(found)
    return answers


class ShadowTest(PlainCase):
    def assert_around(self, language, width, top):
        """Shadow and core are right for all short texts; tells whether they are the language itself."""
        answers = plain_walk(language, width, top)
        around, within = shadow(language, width, top), core(language, width, top)
        self.assertEqual((around.__class__, within.__class__), (Language, Language))
        for text in texts(language.letters, LONGEST[language.letters]):
            told = answers[plain_view(language.letters, width, top, text)]
            self.assertIs(text in around, True in told)
            self.assertIs(text in within, False not in told)
        self.assertTrue(within <= language and language <= around)
        judged = all(len(told) == 1 for told in answers.values())
        self.assertIs(around == language, judged)
        self.assertIs(within == language, judged)
        self.assertIs(is_counting(language, width, top), judged)
        return judged

    def test_against_a_walk_through_views_and_states(self):
        told = []
        for language in found_languages(231, 8)[::2]:
            for width, top in SIZES[language.letters]:
                told.append(self.assert_around(language, width, top))
        self.assertTrue(30 < sum(told) < len(told) - 30)

    def test_each_is_its_own_shadow_and_core(self):
        for language in found_languages(231, 8)[::3]:
            for width, top in SIZES[language.letters]:
                for made in (shadow(language, width, top), core(language, width, top)):
                    self.assertIs(is_counting(made, width, top), True)
                    self.assertEqual(shadow(made, width, top), made)
                    self.assertEqual(core(made, width, top), made)

    def test_nothing_lies_between(self):
        # What is judged and holds the language holds its shadow; what is judged and within it is within its core.
        for letters in ("ab", "bcd"):
            some = conditions(233, 12, letters) + languages(234, 8, letters, 5)
            for width, top in SIZES[letters]:
                judged = [language for language in some if is_counting(language, width, top)]
                self.assertTrue(len(judged) > 4)
                for language in some:
                    around, within = shadow(language, width, top), core(language, width, top)
                    for other in judged:
                        self.assertIs(around <= other, language <= other)
                        self.assertIs(other <= within, other <= language)

    def test_without_texts_and_with_all(self):
        for letters, sizes in SIZES.items():
            for width, top in sizes:
                for language in (finite(letters), ~finite(letters)):
                    self.assertEqual(shadow(language, width, top), language)
                    self.assertEqual(core(language, width, top), language)

    def test_greater_numbers_tell_more(self):
        for language in languages(235, 12, "ab", 5) + [EVEN, TWO_B, lengths("ab", 3, (1,))]:
            for less, more in (((1, 1), (1, 2)), ((1, 1), (2, 1)), ((2, 1), (2, 3)), ((2, 2), (3, 2))):
                self.assertTrue(shadow(language, *more) <= shadow(language, *less))
                self.assertTrue(core(language, *less) <= core(language, *more))

    def test_shadow_and_core_of_the_other_texts(self):
        for language in found_languages(231, 8)[1::3]:
            for width, top in SIZES[language.letters][:2]:
                self.assertEqual(core(language, width, top), ~shadow(~language, width, top))
                self.assertEqual(shadow(language, width, top), ~core(~language, width, top))

    def test_top_left_out_is_one(self):
        for language in (SOME_B, TWO_B, EVEN, having("ab", "ab", 2), ending("ab", "b")):
            for width in (1, 2, 3):
                for call in (shadow, core):
                    self.assertEqual(call(language, width), call(language, width, 1))
                    self.assertEqual(call(width=width, language=language), call(language, width, 1))
                    self.assertEqual(call(top=2, width=width, language=language), call(language, width, 2))

    def test_by_hand(self):
        self.assertEqual(shadow(TWO_B, 1), SOME_B)
        self.assertEqual(core(TWO_B, 1), finite("ab"))
        self.assertEqual(shadow(TWO_B, 1, 2), TWO_B)
        self.assertEqual(shadow(EVEN, 1), ~finite("ab"))
        self.assertEqual(core(EVEN, 1), ~having("ab", "b"))
        self.assertEqual(shadow(finite("ab", "ab"), 2), finite("ab", "ab"))
        self.assertEqual(shadow(finite("ab", "ab"), 1), having("ab", "a") & having("ab", "b"))
        self.assertEqual(shadow(beginning("ab", "ba"), 1), having("ab", "a") & having("ab", "b"))
        self.assertEqual(shadow(finite("a", "a" * 5), 3, 2), ~finite("a", *["a" * many for many in range(4)]))

    def test_the_greatest_sizes(self):
        for letters, width, top in (("abc", 1, 16), ("abcd", 1, 7), ("ab", 3, 2), ("ab", 2, 9), ("abc", 2, 1),
                                    ("a", 8, 20)):
            for language in (lengths(letters, 12, (0, 5)), having(letters, letters[0], 6),
                             languages(236, 1, letters, 40)[0]):
                around, within = shadow(language, width, top), core(language, width, top)
                self.assertTrue(within <= language and language <= around)
                judged = is_counting(language, width, top)
                self.assertEqual((around == language, within == language), (judged, judged))
                pair = common_view(language, ~language, width, top)
                self.assertIs(pair is None, judged)
                if pair is not None:
                    self.assertEqual([text in language for text in pair], [True, False])
                    self.assertEqual(*[view_of(width, top, text) for text in pair])


class CommonViewTest(PlainCase):
    def assert_common(self, one, other, width, top):
        answers, others = plain_walk(one, width, top), plain_walk(other, width, top)
        some = any(True in told and True in others[view] for view, told in answers.items())
        found = common_view(one, other, width, top)
        self.assertEqual(common_view(one, other, width, top), found)
        if not some:
            self.assertIsNone(found)
            return False
        self.assertEqual([part.__class__ for part in (found, *found)], [tuple, str, str])
        self.assertEqual((len(found), found[0] in one, found[1] in other), (2, True, True))
        self.assertEqual(*[plain_view(one.letters, width, top, text) for text in found])
        return True

    def test_against_a_walk_through_views_and_states(self):
        told = []
        for letters, most in (("a", 9), ("ab", 4), ("bcd", 3)):
            some = conditions(237, 2, letters)[::2] + drawn(238, 6, letters, most)
            for at, one in enumerate(some):
                for other in (some[at - 1], ~one, some[-at]):
                    for width, top in SIZES[letters][:4]:
                        told.append(self.assert_common(one, other, width, top))
        self.assertTrue(100 < sum(told) < len(told) - 100)

    def test_languages_against_all_other_texts(self):
        for language in found_languages(231, 8)[::2]:
            for width, top in SIZES[language.letters]:
                self.assertIs(common_view(language, ~language, width, top) is None, is_counting(language, width, top))

    def test_other_letters(self):
        for one, other in ((SOME_B, having("abc", "b")), (finite("a"), finite("b")), (SOME_B, finite("ac")),
                           (~finite("abcd"), ~finite("abc"))):
            self.assert_error(OtherLetters, None, None, common_view, one, other, 2)
            self.assert_error(OtherLetters, None, None, common_view, top=2, width=1, other=other, one=one)

    def test_top_left_out_is_one(self):
        for one, other in ((TWO_B, finite("ab", "b", "ab")), (EVEN, ~EVEN), (SOME_B, ~SOME_B)):
            for width in (1, 2, 3):
                self.assertEqual(common_view(one, other, width), common_view(one, other, width, 1))
                self.assertEqual(common_view(width=width, other=other, one=one), common_view(one, other, width, 1))
                self.assertEqual(common_view(top=2, width=width, other=other, one=one),
                                 common_view(one, other, width, 2))

    def test_by_hand(self):
        self.assertIsNone(common_view(finite("ab"), ~finite("ab"), 1))
        self.assertEqual(common_view(finite("ab", "ab"), finite("ab", "aabb"), 1), ("ab", "aabb"))
        self.assertIsNone(common_view(finite("ab", "ab"), finite("ab", "aabb"), 1, 2))
        self.assertEqual(common_view(finite("ab", ""), ~finite("ab"), 3, 2), ("", ""))
        self.assertIsNone(common_view(finite("ab", "bab"), finite("ab", "babab"), 4))
        self.assertEqual(common_view(finite("ab", "bab"), finite("ab", "babab"), 2), ("bab", "babab"))


if __name__ == "__main__":
    unittest.main()
