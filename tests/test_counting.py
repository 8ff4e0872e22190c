"""is_counting, table_of and corners, beside a walk over all views."""

import unittest

from judged import conditions, drawn, plain_states, plain_view
from piecesseen.counting import corners, is_counting, table_of
from piecesseen.errors import Unjudged
from piecesseen.languages import Language
from piecesseen.makers import beginning, ending, finite, having, lengths
from piecesseen.views import view_behind, views
from plain import PlainCase, languages, run, texts

EVEN = Language("ab", ((0, 1), (1, 0)), (0,))
AHEAD = Language("abc", ((1, 0, 0), (1, 2, 1), (2, 2, 2)), (2,))
SIZES = {"a": [(1, 1), (2, 3), (8, 20)], "ab": [(1, 1), (1, 3), (2, 1), (2, 2), (3, 1)], "bcd": [(1, 1), (1, 3), (2, 1)],
         "wxyz": [(1, 1), (1, 2)]}


def found_languages(seed):
    """Languages over several letters: of conditions, of machines with few states, and of machines with many actions."""
    for letters, most in (("a", 9), ("ab", 4), ("bcd", 3), ("wxyz", 3)):
        yield from conditions(seed, 12, letters)
        yield from drawn(seed + 1, 15, letters, most)
    yield from languages(seed + 2, 15, "ab", 12)


class IsCountingTest(PlainCase):
    def test_against_a_walk_over_all_views(self):
        told = []
        for language in found_languages(91):
            for width, top in SIZES[language.letters]:
                told.append(is_counting(language, width, top))
                self.assertIs(told[-1], plain_states(language, width, top) is not None)
        self.assertTrue(100 < sum(told) < len(told) - 100)

    def test_against_all_texts(self):
        for letters, longest in (("a", 14), ("ab", 8), ("bcd", 5)):
            for language in conditions(94, 20, letters):
                for width, top in SIZES[letters]:
                    answers = {}
                    for text in texts(letters, longest):
                        answers.setdefault(plain_view(letters, width, top, text), set()).add(text in language)
                    if is_counting(language, width, top):
                        self.assertTrue(all(len(held) == 1 for held in answers.values()))

    def test_greater_numbers_keep_true(self):
        for language in found_languages(95):
            most = {"a": (8, 6), "ab": (3, 2), "bcd": (2, 1), "wxyz": (1, 3)}[language.letters]
            told = {(width, top): is_counting(language, width, top)
                    for width in range(1, most[0] + 1) for top in range(1, most[1] + 1)}
            for (width, top), answer in told.items():
                self.assertFalse(answer and not told.get((width + 1, top), True))
                self.assertFalse(answer and not told.get((width, top + 1), True))

    def test_numbers_of_places(self):
        for least in range(1, 7):
            language = having("ab", "b", least)
            for top in range(1, 21):
                self.assertIs(is_counting(language, 1, top), top >= least)
        self.assertIs(is_counting(top=2, width=1, language=having("ab", "b", 2)), True)
        self.assertIs(is_counting(having("ab", "ba", 2), 2, 2), True)
        self.assertIs(is_counting(having("ab", "ba", 2), 2, 1), False)

    def test_of_no_kind(self):
        for width, top in SIZES["ab"]:
            self.assertIs(is_counting(EVEN, width, top), False)
        for width, top in SIZES["bcd"]:
            self.assertIs(is_counting(AHEAD, width, top), False)
        for width, top in SIZES["a"]:
            self.assertIs(is_counting(lengths("a", 2, (0,)), width, top), False)


class TableOfTest(PlainCase):
    def pair_against(self, language, width, top):
        """The pair that the error bears; it is right, and the same again."""
        with self.assertRaises(Unjudged) as caught:
            table_of(language, width, top)
        pair = caught.exception.pair
        self.assertIs(pair.__class__, tuple)
        self.assertEqual([text.__class__ for text in pair], [str, str])
        one, other = pair
        letters = language.letters
        self.assertEqual(plain_view(letters, width, top, one), plain_view(letters, width, top, other))
        self.assertEqual((one in language, other in language), (True, False))
        self.assert_error(Unjudged, "pair", pair, table_of, language, width, top)
        self.assert_error(Unjudged, "pair", pair, table_of, top=top, width=width, language=language)
        return pair

    def test_against_a_walk_over_all_views(self):
        tables = pairs = 0
        for language in found_languages(96):
            for width, top in SIZES[language.letters]:
                states = plain_states(language, width, top)
                if states is None:
                    pairs += 1
                    self.pair_against(language, width, top)
                else:
                    tables += 1
                    self.assertEqual(table_of(language, width, top), tuple(sorted(states.items())))
        self.assertTrue(tables > 100 and pairs > 100)

    def test_what_makes_a_table(self):
        for language, width, top in ((having("ab", "b", 3), 1, 4), (having("ab", "ab") & ending("ab", "a"), 2, 2),
                                     (finite("a", "aaa", "a"), 2, 3), (beginning("wxyz", "x"), 2, 1),
                                     (finite("ab"), 1, 1), (~finite("bcd"), 1, 2)):
            if width == 2 and language.letters == "wxyz":
                language = beginning("bcd", "c")
            table = table_of(language, width, top)
            self.assertEqual(table, tuple(sorted(set(table))))
            states = dict(table)
            self.assertEqual(len(states), len(table))
            self.assertEqual(set(states), set(views(language.letters, width, top)))
            self.assertEqual(states[("short", "")], 0)
            for view, state in table:
                self.assertIs(state.__class__, int)
                for letter, target in zip(language.letters, language.rows[state]):
                    self.assertEqual(states[view_behind(width, top, view, letter)], target)

    def test_the_states_of_all_texts(self):
        language = having("ab", "ab", 2) | beginning("ab", "b")
        states = dict(table_of(language=language, width=2, top=2))
        for text in texts("ab", 9):
            state = run("ab", language.rows, 0, text)
            self.assertEqual(states[plain_view("ab", 2, 2, text)], state)

    def test_a_table_by_hand(self):
        self.assertEqual(table_of(having("ab", "b"), 1, 1), (
            (("long", "", "", (("a", 1),)), 0), (("long", "", "", (("a", 1), ("b", 1))), 1),
            (("long", "", "", (("b", 1),)), 1), (("short", ""), 0)))

    def test_pairs(self):
        self.assertEqual(sorted(self.pair_against(having("ab", "b", 2), 1, 1)), ["b", "bb"])
        for width, top in ((1, 20), (2, 3), (3, 2)):
            self.pair_against(EVEN, width, top)
            self.pair_against(~EVEN, width, top)
        for width, top in ((1, 16), (2, 1)):
            self.pair_against(AHEAD, width, top)
            self.pair_against(~AHEAD, width, top)


class CornersTest(PlainCase):
    def assert_corners(self, language, most_width, most_top):
        told = {(width, top): is_counting(language, width, top)
                for width in range(1, most_width + 1) for top in range(1, most_top + 1)}
        wanted = tuple(sorted(pair for pair, answer in told.items() if answer
                              and not told.get((pair[0] - 1, pair[1])) and not told.get((pair[0], pair[1] - 1))))
        self.assertEqual(corners(language, most_width, most_top), wanted)
        return wanted

    def test_against_is_counting(self):
        found = []
        for language in found_languages(98):
            most = {"a": [(8, 20), (3, 4)], "ab": [(3, 2), (2, 4), (1, 6)], "bcd": [(2, 1), (1, 9)],
                    "wxyz": [(1, 5)]}[language.letters]
            for most_width, most_top in most:
                found.append(self.assert_corners(language, most_width, most_top))
        self.assertTrue(found.count(()) > 10)
        self.assertTrue(len([pairs for pairs in found if len(pairs) > 1]) > 10)

    def test_several_corners(self):
        for many in range(1, 9):
            language = having("a", "a", 6) & having("a", "a" * many)
            self.assert_corners(language, 8, 20)
        self.assertEqual(corners(having("a", "a" * 5), 8, 20), tuple((width, 6 - width) for width in range(1, 6)))
        self.assertEqual(corners(having("a", "a" * 5), 3, 3), ((3, 3),))
        self.assertEqual(corners(having("ab", "ab"), 3, 2), ((2, 1),))

    def test_none(self):
        for language in (EVEN, ~EVEN, having("ab", "b", 3)):
            self.assertEqual(corners(language, 2, 2), ())
        self.assertEqual(corners(AHEAD, 1, 16), ())
        self.assertEqual(corners(AHEAD, 2, 1), ())

    def test_the_least_numbers(self):
        self.assertEqual(corners(finite("ab"), 3, 2), ((1, 1),))
        self.assertEqual(corners(language=having("ab", "b", 2), most_width=2, most_top=4), ((1, 2),))
        self.assertEqual(corners(having("ab", "b", 2), 1, 1), ())
        self.assertEqual(corners(having("ab", "b", 2), 1, 2), ((1, 2),))


if __name__ == "__main__":
    unittest.main()
