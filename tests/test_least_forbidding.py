"""least_forbidding: the least number of letters, or a paper that no number is enough."""

import itertools
import unittest

from judged import conditions, drawn, plain_least_judge, words
from papers_plain import are_twins, is_paper, texts_for
from piecesseen.errors import NoJudge
from piecesseen.forbidding import accepts, is_judge, judge_of, language_of, learned, least_forbidding
from piecesseen.languages import Language
from piecesseen.makers import beginning, ending, finite, having, lengths
from plain import PlainCase, texts


def answer(language):
    """The least number, or the paper."""
    try:
        return least_forbidding(language)
    except NoJudge as error:
        return error.paper


def is_told(language, width, longest):
    """Whether the least judge of the texts up to a length accepts none but texts of the language among them."""
    every = texts(language.letters, longest)
    judge = plain_least_judge(language.letters, [text for text in every if text in language], width)
    return all(accepts(judge, text) == (text in language) for text in every)


class LeastForbiddingTest(PlainCase):
    def assert_least(self, language, longest):
        """The number is the least one for the texts up to a length, or the paper is right."""
        found = answer(language)
        if isinstance(found, tuple):
            self.assert_paper(language, found)
            return False
        self.assertIs(found.__class__, int)
        self.assertEqual(language_of(language.letters, judge_of(language, found)), language)
        self.assertTrue(found == 1 or not is_told(language, found - 1, longest))
        return True

    def assert_paper(self, language, paper):
        self.assertEqual(paper[0], "splice")
        self.assertTrue(is_paper(language, paper))
        for width in (1, 2, 3, 5):
            for n in range(width + 1, width + 4):
                one, other, third = texts_for(paper, n)
                self.assertTrue(accepts(learned(width, one, other), third))

    def test_against_all_texts(self):
        for letters, longest in (("a", 12), ("ab", 8), ("bcd", 6)):
            found = conditions(81, 60, letters) + drawn(82, 40, letters, 4 if letters == "ab" else 3)
            told = [self.assert_least(language, longest) for language in found]
            self.assertTrue(10 < sum(told) < len(told))

    def test_all_small_judges(self):
        # A language that a judge with k accepts is judged with k at the latest.
        for firsts, lasts in itertools.product((("a",), ("b",), ("a", "b")), repeat=2):
            for numbers in itertools.product((0, 1), repeat=4):
                pieces = tuple(word for word, number in zip(words("ab", 2), numbers) if number)
                judge = (2, ("b",), firsts, lasts, pieces)
                self.assertTrue(is_judge("ab", judge))
                language = language_of("ab", judge)
                self.assertLessEqual(answer(language), 2)
                self.assertTrue(self.assert_least(language, 8))

    def test_numbers(self):
        no_bb = ~having("ab", "bb")
        self.assertEqual([answer(language) for language in (
            no_bb, finite("ab"), ~finite("ab"), finite("ab", ""), finite("ab", "a"), beginning("ab", "b"),
            ending("ab", "ba"), ~having("ab", "abb"), no_bb & ending("ab", "a"), finite("ab", "abab"),
            ~having("abc", "c"), lengths("ab", 1, (0,)),
        )], [2, 1, 1, 1, 2, 2, 3, 3, 2, 4, 1, 1])
        self.assertEqual(least_forbidding(language=no_bb), 2)

    def test_numbers_up_to_the_bound(self):
        for many in range(1, 8):
            self.assertEqual(answer(finite("a", "a" * many)), many + 1)
            self.assertEqual(answer(~having("a", "a" * (many + 1))), many + 1)
        for many in range(2, 7):
            self.assertEqual(answer(~having("ab", "aabbab"[:many])), many)
        for many in range(1, 4):
            self.assertEqual(answer(~having("abcd", "bca"[:many])), many)

    def test_papers(self):
        even = Language("ab", ((0, 1), (1, 0)), (0,))
        ahead = Language("abc", ((1, 0, 0), (1, 2, 1), (2, 2, 2)), (2,))
        for language in (having("ab", "b"), having("ab", "b", 2), having("ab", "bb"), even, ~even, ahead, ~ahead,
                         lengths("ab", 2, (0,)), lengths("a", 12, (5,)), lengths("abcd", 3, (0, 1)),
                         beginning("ab", "a") & having("ab", "bb"), having("abcd", "ad", 6)):
            self.assert_paper(language, answer(language))
            self.assertEqual(answer(language), answer(language))
            self.assert_error(NoJudge, "paper", answer(language), least_forbidding, language)
            self.assert_error(NoJudge, "paper", answer(language), least_forbidding, language=language)

    def test_the_paper_of_the_examples(self):
        example = ("splice", "", "b", "b", "", "a")
        self.assertTrue(is_paper(having("ab", "b"), example))
        self.assertTrue(all(are_twins(having("ab", "b"), example, n) for n in range(20)))
        self.assertFalse(is_paper(~having("ab", "bb"), example))

    def test_sixteen_states(self):
        fifteen = Language("ab", tuple(((state + 1) % 16, state) for state in range(16)), (3, 8))
        chain = Language("ab", tuple((min(state + 1, 15), 15) for state in range(16)), (5, 9))
        every = having("abcd", "a") & having("abcd", "b") & having("abcd", "c") & having("abcd", "d")
        for language in (fifteen, ~fifteen, every, ~every):
            self.assertEqual(len(language), 16)
            self.assert_paper(language, answer(language))
        self.assertEqual(answer(chain), 10)
        self.assertEqual(answer(~having("abc", "aba") & ~having("abc", "cc") & beginning("abc", "ab")), 3)


if __name__ == "__main__":
    unittest.main()
