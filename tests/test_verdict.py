"""verdict and is_of, beside the kinds as actions tell them, and beside judges with smaller numbers."""

import unittest

from asked import EXAMPLES, answered
from judged import plain_states
from papers_plain import AGAINST, KINDS, plain_against, plain_for, plain_kinds, plain_table, same, texts_for
from piecesseen.counting import is_counting
from piecesseen.forbidding import accepts, judge_of, language_of, learned
from piecesseen.makers import finite, having, lengths
from piecesseen.verdicts import is_of, verdict
from piecesseen.views import view_of
from plain import PlainCase, texts


class VerdictTest(PlainCase):
    def assert_right(self, language, kind, paper):
        """The paper is right, and none of the other sort could be."""
        self.assertIs(paper.__class__, tuple)
        if kind in plain_kinds(language):
            self.assertTrue(plain_for(language, kind, paper), paper)
        else:
            self.assertTrue(plain_against(language, kind, paper), paper)

    def test_against_plain_python(self):
        told = {}
        for language, kind, paper in answered(201):
            self.assert_right(language, kind, paper)
            self.assertTrue(same(verdict(language, kind), paper))
            self.assertTrue(same(verdict(kind=kind, language=language), paper))
            told.setdefault(kind, []).append(paper[0])
        for kind in KINDS:
            self.assertTrue(20 < told[kind].count(kind) < len(told[kind]) - 20)
        self.assertEqual(set().union(*told.values()), {*KINDS, *AGAINST})

    def test_is_of(self):
        for language, kind, paper in answered(201):
            answer = is_of(language, kind)
            self.assertIs(answer, kind in plain_kinds(language))
            self.assertIs(answer, is_of(kind=kind, language=language))
            self.assertIs(answer, paper[0] == kind)

    def test_the_kinds_of_examples(self):
        for language, kinds in EXAMPLES:
            self.assertEqual(tuple(kind for kind in KINDS if is_of(language, kind)), kinds)
            self.assertEqual(tuple(kind for kind in KINDS if verdict(language, kind)[0] == kind), kinds)

    def test_the_least_forbidding_judge(self):
        for language, _, paper in answered(201):
            if paper[0] == "forbidding":
                judge = paper[1]
                self.assertEqual(judge, judge_of(language, judge[0]))
                for text in texts(language.letters, 5):
                    self.assertIs(accepts(judge, text), text in language)
                for width in range(1, judge[0]):
                    smaller = language_of(language.letters, judge_of(language, width))
                    self.assertTrue(language <= smaller and language != smaller)

    def test_the_least_number_for_occurrences(self):
        for language, _, paper in answered(201):
            if paper[0] == "occurring":
                width = paper[1]
                self.assertIs(width.__class__, int)
                # With greater numbers there are too many views to be walked through.
                most = {1: 8, 2: 3, 3: 2, 4: 1}[len(language.letters)]
                for number in range(1, min(width, most) + 1):
                    self.assertIs(plain_states(language, number, 1) is not None, number == width)

    def test_tables(self):
        for language, _, paper in answered(201):
            if paper[0] == "counting":
                _, width, top, table = paper
                self.assertTrue(same(table, plain_table(language, width, top)))
                self.assertTrue(top == 1 or not is_counting(language, width, top - 1))

    def test_papers_against_a_kind_bear_twins(self):
        for _, kind, paper in answered(201):
            if paper[0] != kind:
                for width, top in ((1, 1), (2, 3), (4, 1)):
                    # That the answers are right is told by other tests; here, that the texts look the same.
                    first, second, *third = texts_for(paper, width + top)
                    if third:
                        self.assertTrue(accepts(learned(width, first, second), third[0]))
                    else:
                        seen = top if kind == "counting" else 1
                        self.assertEqual(view_of(width, seen, first), view_of(width, seen, second))

    def test_languages_without_texts_and_with_all(self):
        for letters in ("a", "ab", "bcd", "wxyz"):
            none, every = finite(letters), ~finite(letters)
            self.assertEqual(verdict(none, "forbidding"), ("forbidding", (1, (), (), (), ())))
            self.assertEqual(verdict(every, "forbidding"), ("forbidding", (1, ("",), ("",), ("",), tuple(letters))))
            for language in (none, every):
                self.assertEqual(verdict(language, "occurring"), ("occurring", 1))
                self.assertTrue(plain_for(language, "counting", verdict(language, "counting")))

    def test_numbers_by_hand(self):
        self.assertEqual(verdict(~having("ab", "bb"), "forbidding"),
                         ("forbidding", (2, ("", "a", "b"), ("a", "b"), ("a", "b"), ("aa", "ab", "ba"))))
        self.assertEqual(verdict(having("ab", "b"), "occurring"), ("occurring", 1))
        self.assertEqual(verdict(finite("ab", "abab"), "occurring"), ("occurring", 4))
        self.assertEqual(verdict(finite("a", "a" * 7), "forbidding"), ("forbidding", (8, ("a" * 7,), (), (), ())))
        self.assertEqual(verdict(having("ab", "b", 2), "occurring")[0], "again")
        self.assertEqual(verdict(having("ab", "b"), "forbidding")[0], "splice")
        self.assertEqual(verdict(lengths("ab", 2, (1,)), "counting")[0], "power")


if __name__ == "__main__":
    unittest.main()
