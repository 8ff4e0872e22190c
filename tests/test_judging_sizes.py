"""The greatest calls to views and judges within the limits come to their answers, and the answers are right."""

import random
import unittest

from judged import actions
from papers_plain import is_paper
from piecesseen.counting import corners, is_counting, table_of
from piecesseen.errors import BadView, NoJudge, Unjudged
from piecesseen.forbidding import judge_of, language_of, least_forbidding
from piecesseen.languages import Language
from piecesseen.makers import beginning, ending, finite, having
from piecesseen.occurring import is_occurring, least_occurring
from piecesseen.views import first_text, view_holds, view_of, views
from plain import PlainCase, run

# Letters, k and t with nearly 5,000 views, and the number of them.
GREATEST = [("abc", 1, 16, 4913), ("abcd", 1, 7, 4096), ("ab", 3, 2, 4095), ("abc", 2, 1, 1615), ("a", 8, 20, 28)]


class JudgingSizesTest(PlainCase):
    def test_views(self):
        for letters, width, top, many in GREATEST:
            found = list(views(letters, width, top))
            self.assertEqual((len(found), len(set(found))), (many, many))
            self.assertTrue(all(view_holds(letters, width, top, view) for view in found))
            last = found[-1]
            text = first_text(letters, width, top, last)
            self.assertEqual(view_of(width, top, text), last)
            more = last[:3] + (last[3][:-1] + ((last[3][-1][0], top + 1),),)
            self.assertIs(view_holds(letters, width, top, more), False)
            self.assert_error(BadView, "value", more, first_text, letters, width, top, more)

    def test_tables(self):
        for letters, width, top, many in GREATEST:
            for language in (having(letters, letters[0]), ending(letters, letters[-1] * (width - 1)), ~finite(letters)):
                table = table_of(language, width, top)
                self.assertEqual(len(table), many)
                for view, state in table[::97]:
                    text = first_text(letters, width, top, view)
                    self.assertEqual(run(letters, language.rows, 0, text), state)

    def test_many_states(self):
        # As many as a returned language may have: the numbers of a and b, up to 14 and 19, are told apart.
        rows = tuple((20 * min(state // 20 + 1, 14) + state % 20, 20 * (state // 20) + min(state % 20 + 1, 19))
                     for state in range(300))
        language = Language("ab", rows, tuple(state for state in range(300) if (3 * (state // 20) + state % 20) % 7 == 0))
        self.assertTrue(200 < len(language) <= 300)
        self.assertIs(is_counting(language, 1, 20), True)
        self.assertIs(is_counting(language, 1, 18), False)
        self.assertEqual(corners(language, 1, 20), ((1, 19),))
        self.assertEqual(len(table_of(language, 1, 20)), 21 ** 2)
        with self.assertRaises(Unjudged) as caught:
            table_of(language, 1, 18)
        one, other = caught.exception.pair
        self.assertEqual((one in language, other in language), (True, False))
        self.assertEqual(view_of(1, 18, one), view_of(1, 18, other))

    def test_corners(self):
        self.assertEqual(corners(having("abc", "b", 6), 1, 16), ((1, 6),))
        self.assertEqual(corners(having("abcd", "b", 6), 1, 7), ((1, 6),))
        self.assertEqual(corners(having("ab", "ab", 2), 3, 2), ((2, 2),))
        self.assertEqual(corners(having("ab", "aba"), 3, 2), ((3, 1),))
        self.assertEqual(corners(having("a", "aaaa", 6), 8, 20), tuple((width, 10 - width) for width in range(1, 9)))

    def test_languages_of_a_kind(self):
        for letters, text in (("ab", "abaabb"), ("abc", "bab"), ("abcd", "dbc")):
            width = len(text)
            self.assertEqual(least_forbidding(~having(letters, text)), width)
            self.assertEqual(least_occurring(having(letters, text)), width)
            self.assertIs(is_occurring(~having(letters, text), width), True)
            self.assertEqual(least_forbidding(beginning(letters, text[:-1])), width)
            self.assertEqual(least_occurring(ending(letters, text[:-1])), width)
        self.assertEqual(least_forbidding(finite("a", "a" * 7)), 8)
        self.assertEqual(least_occurring(finite("a", "a" * 7)), 8)
        self.assertIs(is_occurring(having("a", "a" * 8), 8), True)
        self.assertIs(is_occurring(having("a", "a" * 8), 7), False)

    def test_languages_with_many_actions(self):
        chance = random.Random(99)
        found = []
        while len(found) < 12:
            size = chance.randint(5, 16)
            # Machines in which a letter mostly stays or goes to the next state have neither too few actions nor too many.
            rows = tuple(tuple(min(size - 1, state + chance.choice((0, 0, 1))) for _ in "abc") for state in range(size))
            language = Language("abc", rows, tuple(state for state in range(size) if chance.random() < 0.5))
            if len(language) > 4 and 40 < len(actions(language)) <= 100:
                found.append(language)
        for language in found:
            for call in (least_forbidding, least_occurring):
                try:
                    self.assertIn(call(language), range(1, 9))
                except NoJudge as error:
                    self.assertTrue(is_paper(language, error.paper))

    def test_the_greatest_judges_of_languages(self):
        ring = Language("ab", tuple(((state + 1) % 300, 7 * state % 300) for state in range(300)), (7,))
        judge = judge_of(ring, 8)
        self.assertTrue(ring <= language_of("ab", judge))
        self.assertEqual(judge_of(language_of("ab", judge), 8), judge)


if __name__ == "__main__":
    unittest.main()
