"""is_occurring and least_occurring, beside a walk over all views."""

import unittest

from judged import actions, conditions, drawn, plain_states, plain_view
from papers_plain import are_twins, is_paper, texts_for
from piecesseen.counting import is_counting
from piecesseen.errors import NoJudge
from piecesseen.languages import Language
from piecesseen.makers import beginning, ending, finite, having, lengths
from piecesseen.occurring import is_occurring, least_occurring
from plain import PlainCase, texts

EVEN = Language("ab", ((0, 1), (1, 0)), (0,))
AHEAD = Language("abc", ((1, 0, 0), (1, 2, 1), (2, 2, 2)), (2,))


def answer(language):
    """The least number, or the paper."""
    try:
        return least_occurring(language)
    except NoJudge as error:
        return error.paper


def agrees(language, width, longest):
    """Whether no two texts up to a length with the same view are answered differently."""
    answers = {}
    for text in texts(language.letters, longest):
        if answers.setdefault(plain_view(language.letters, width, 1, text), text in language) != (text in language):
            return False
    return True


class IsOccurringTest(PlainCase):
    def test_against_a_walk_over_all_views(self):
        for letters, most, widest in (("a", 6, 8), ("ab", 4, 3), ("bcd", 3, 2), ("wxyz", 3, 1)):
            found = conditions(83, 20, letters) + drawn(84, 20, letters, most)
            told = []
            for language in found:
                for width in range(1, widest + 1):
                    told.append(is_occurring(language, width))
                    self.assertIs(told[-1], plain_states(language, width, 1) is not None)
                    self.assertIs(is_counting(language, width, 1), told[-1])
            self.assertTrue(10 < sum(told) < len(told) - 10)

    def test_against_all_texts(self):
        for letters, longest in (("a", 12), ("ab", 8), ("bcd", 5)):
            for language in conditions(85, 20, letters):
                for width in range(1, 4):
                    if is_occurring(language, width):
                        self.assertTrue(agrees(language, width, longest))
                    elif len(language) <= 3 and width <= 2:
                        self.assertFalse(agrees(language, width, longest))

    def test_a_greater_k_keeps_true(self):
        for letters, widest in (("a", 8), ("ab", 6), ("bcd", 3), ("wxyz", 3)):
            for language in conditions(86, 40, letters):
                told = [is_occurring(language, width) for width in range(1, widest + 1)]
                self.assertEqual(told, sorted(told))

    def test_the_greatest_numbers(self):
        for width in range(1, 7):
            self.assertIs(is_occurring(having("ab", "aabbab"), width), width == 6)
            self.assertIs(is_occurring(ending("ab", "aabba"), width), width == 6)
            self.assertIs(is_occurring(EVEN, width), False)
        for width in range(1, 4):
            self.assertIs(is_occurring(having("abcd", "cab"), width), width == 3)
            self.assertIs(is_occurring(having("abcd", "ca") - having("abcd", "bd"), width), width > 1)
        self.assertIs(is_occurring(width=1, language=having("ab", "b")), True)
        self.assertIs(is_occurring(width=8, language=finite("a", "a" * 7)), True)
        self.assertIs(is_occurring(finite("a", "a" * 8), 8), False)


class LeastOccurringTest(PlainCase):
    def assert_paper(self, language, paper):
        self.assertIn(paper[0], ("again", "order"))
        self.assertTrue(is_paper(language, paper))
        for width in (1, 2, 3):
            for n in range(width + 1, width + 4):
                one, other = [plain_view(language.letters, width, 1, text) for text in texts_for(paper, n)]
                self.assertEqual(one, other)

    def test_against_a_walk_over_all_views(self):
        for letters, most, widest in (("a", 6, 8), ("ab", 4, 3), ("bcd", 3, 2)):
            found = conditions(87, 60, letters) + drawn(88, 60, letters, most)
            papers = numbers = 0
            for language in found:
                least = answer(language)
                if isinstance(least, tuple):
                    papers += 1
                    self.assert_paper(language, least)
                    for width in range(1, widest):
                        self.assertIsNone(plain_states(language, width, 1))
                else:
                    numbers += 1
                    self.assertIs(least.__class__, int)
                    for width in range(1, min(least, widest) + 1):
                        self.assertIs(plain_states(language, width, 1) is not None, width == least)
            self.assertTrue(papers > 10 and numbers > 10)

    def test_numbers(self):
        self.assertEqual([answer(language) for language in (
            having("ab", "b"), ~having("ab", "bb"), finite("ab"), ~finite("ab"), finite("ab", ""), finite("ab", "a"),
            beginning("ab", "b"), ending("ab", "ba"), having("ab", "ab") & having("ab", "ba"), finite("ab", "abab"),
            having("abc", "c") - having("abc", "ab"), having("abcd", "bca"),
        )], [1, 2, 1, 1, 1, 2, 2, 3, 2, 4, 2, 3])
        self.assertEqual(least_occurring(language=having("ab", "b")), 1)
        for many in range(1, 8):
            self.assertEqual(answer(finite("a", "a" * many)), many + 1)
        for many in range(1, 7):
            self.assertEqual(answer(having("ab", "abaabb"[:many])), many)

    def test_papers(self):
        for language in (EVEN, ~EVEN, AHEAD, ~AHEAD, having("ab", "b", 2), having("ab", "ab", 3), lengths("a", 5, (1,)),
                         lengths("abcd", 2, (1,)), EVEN & having("ab", "aa"), having("abc", "ba", 6)):
            self.assert_paper(language, answer(language))
            self.assertEqual(answer(language), answer(language))
            self.assert_error(NoJudge, "paper", answer(language), least_occurring, language)
            self.assert_error(NoJudge, "paper", answer(language), least_occurring, language=language)

    def test_where_only_the_order_matters(self):
        # Behind the first a or b only this letter is remembered: each text done twice is the same as done once.
        first = Language("abc", ((1, 2, 0), (1, 1, 1), (2, 2, 2)), (1,))
        self.assertEqual(answer(first)[0], "order")
        self.assert_paper(first, answer(first))

    def test_the_papers_of_the_examples(self):
        self.assertTrue(all(are_twins(having("ab", "b", 2), ("again", "", "a", "b", ""), n) for n in range(20)))
        self.assertTrue(is_paper(having("ab", "b", 2), ("again", "", "a", "b", "")))
        self.assertTrue(is_paper(AHEAD, ("order", "", "c", "a", "b", "")))

    def test_sixteen_states_and_many_actions(self):
        ring = Language("ab", tuple(((state + 1) % 16, state) for state in range(16)), (3, 8))
        every = having("abcd", "a") & having("abcd", "b") & having("abcd", "c") & having("abcd", "d")
        pieces = having("ab", "abab") & beginning("ab", "ba")
        many = having("ab", "aa") & having("ab", "bab")
        self.assertTrue(all(len(language) <= 16 and len(actions(language)) <= 100
                            for language in (ring, every, pieces, many)))
        self.assertEqual((len(ring), len(every)), (16, 16))
        self.assert_paper(ring, answer(ring))
        self.assertEqual((answer(every), answer(~every)), (1, 1))
        self.assertEqual((answer(pieces), answer(many)), (4, 3))


if __name__ == "__main__":
    unittest.main()
