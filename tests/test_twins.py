"""twins: the texts of papers for the least number of repetitions, beside powers that are written out."""

import unittest

from asked import AHEAD, EVEN, FIRST, SOME_B, TWO_B, answered, exchanging, found_languages, two_rounds
from judged import plain_view
from papers_plain import AGAINST, are_twins, drawn_papers, is_paper, texts_for
from piecesseen.errors import NoJudge
from piecesseen.forbidding import accepts, learned, least_forbidding
from piecesseen.languages import Language
from piecesseen.makers import having, lengths
from piecesseen.occurring import least_occurring
from piecesseen.verdicts import twins, verdict
from plain import PlainCase


class TwinsTest(PlainCase):
    def assert_twins(self, language, paper, width, top):
        """The texts are those for the least n, and they look the same; tells how far n is beyond k + t."""
        n = width + top
        while not are_twins(language, paper, n):
            n += 1
        found = twins(language, paper, width, top)
        self.assertIs(found.__class__, tuple)
        self.assertEqual(found, texts_for(paper, n))
        if AGAINST[paper[0]] == "forbidding":
            self.assertTrue(accepts(learned(width, *found[:2]), found[2]))
            self.assertEqual([text in language for text in found], [True, True, False])
        else:
            seen = top if AGAINST[paper[0]] == "counting" else 1
            self.assertEqual(*[plain_view(language.letters, width, seen, text) for text in found])
            self.assertEqual(sorted(text in language for text in found), [False, True])
        return n - width - top

    def test_papers_of_verdict(self):
        for language, kind, paper in answered(201):
            if paper[0] != kind:
                for width, top in ((1, 1), (1, 4), (2, 2), (4, 1)):
                    self.assert_twins(language, paper, width, top)

    def test_any_papers(self):
        later = {}
        some = [*found_languages(201), *[EVEN, AHEAD, ~EVEN, ~AHEAD, FIRST, ~FIRST] * 12]
        for seed, language in enumerate(some):
            for paper in drawn_papers(language.letters, seed, 40, 1 if len(language.letters) > 2 else 3):
                if is_paper(language, paper):
                    for width, top in ((1, 1), (2, 2)):
                        later.setdefault(paper[0], []).append(self.assert_twins(language, paper, width, top))
        self.assertEqual(set(later), set(AGAINST))
        self.assertTrue(all(len(found) > 10 for found in later.values()))
        self.assertTrue(any(later["splice"]) and any(later["again"]) and any(later["power"]))

    def test_periods(self):
        for period in range(2, 13):
            later = []
            for rest in (0, 1, period - 1):
                language = lengths("ab", period, (rest,))
                for paper in (("power", "", "a", ""), ("power", "ab", "bab", "a"), ("again", "", "a", "b", ""),
                              ("splice", "a", "", "", "a" * 13, "b")):
                    if is_paper(language, paper):
                        later += [self.assert_twins(language, paper, width, top) for width in (1, 3) for top in (1, 4)]
            self.assertTrue(len(later) > 10 and max(later) >= period - 3)

    def test_two_periods_at_once(self):
        # The number of a is divided by 3, that of b by 5, so the powers of words come round with 3, 5 or 15.
        rows = tuple((3 * (state // 3) + (state + 1) % 3, (state + 3) % 15) for state in range(15))
        later = []
        for end in range(15):
            language = Language("ab", rows, (end,))
            # Both letters commute, so nothing is exchanged.
            self.assertIs(is_paper(language, ("exchange", "", "a", "b", "b", "", "", "a")), False)
            for word in ("a", "b", "ab", "aab"):
                if is_paper(language, ("power", "", word, "")):
                    later.append(self.assert_twins(language, ("power", "", word, ""), 2, 3))
        self.assertTrue(len(later) > 30 and max(later) > 10)

    def test_exchanges_with_periods(self):
        later = []
        for end in range(18):
            language = exchanging(end)
            for paper in (("exchange", "", "c", "a", "d", "", "b", ""), ("exchange", "", "c", "a", "d", "", "b", "dd"),
                          ("exchange", "c", "c", "ab", "ddcd", "c", "b", "d")):
                if is_paper(language, paper):
                    for width, top in ((1, 1), (1, 2), (2, 2), (3, 2)):
                        later.append(self.assert_twins(language, paper, width, top))
        self.assertTrue(len(later) > 20 and any(later))

    def test_two_periods_in_one_word(self):
        later = []
        for one, other in ((5, 7), (3, 4), (7, 5), (9, 11)):
            for end in range(other):
                for width, top in ((1, 1), (2, 3), (8, 20)):
                    language = two_rounds(one, other, end)
                    later.append(self.assert_twins(language, ("again", "", "a", "b", ""), width, top))
        self.assertGreater(max(later), 80)

    def test_answers_that_change_with_few_repetitions(self):
        # Texts with one b and five letters a side by side.
        language = having("ab", "b") & ~TWO_B & having("ab", "aaaaa")
        paper = ("again", "", "a", "b", "")
        for width in range(1, 5):
            for top in range(1, 5):
                self.assertEqual(self.assert_twins(language, paper, width, top), max(5 - width - top, 0))
        self.assertEqual(twins(language, paper, 1), ("aaaaabaaaaa", "aaaaabaaaaabaaaaa"))

    def test_top_left_out_is_one(self):
        for language, kind in ((SOME_B, "forbidding"), (TWO_B, "occurring"), (EVEN, "counting"), (AHEAD, "counting")):
            paper = verdict(language, kind)
            for width in (1, 2, 5, 8):
                self.assertEqual(twins(language, paper, width), twins(language, paper, width, 1))
                self.assertEqual(twins(width=width, paper=paper, language=language), twins(language, paper, width, 1))
                self.assertEqual(twins(top=7, width=width, paper=paper, language=language),
                                 twins(language, paper, width, 7))

    def test_by_hand(self):
        self.assertEqual(twins(SOME_B, ("splice", "", "b", "b", "", "a"), 2), ("aaab", "baaa", "aaa"))
        self.assertEqual(twins(TWO_B, ("again", "", "a", "b", ""), 1, 2), ("aaabaaa", "aaabaaabaaa"))
        self.assertEqual(twins(EVEN, ("power", "", "b", ""), 1, 1), ("bb", "bbb"))
        self.assertEqual(twins(AHEAD, ("exchange", "", "c", "a", "c", "", "b", ""), 1),
                         ("cc" + "acccc" + "bcc", "ccbccccacc"))
        self.assertEqual(twins(AHEAD, ("order", "", "c", "a", "b", ""), 1), ("ccaccbcc", "ccbccacc"))
        self.assertEqual(twins(lengths("a", 5, (0,)), ("power", "", "a", ""), 4, 2), ("a" * 9, "a" * 10))

    def test_the_greatest_numbers(self):
        for language, kind in ((SOME_B, "forbidding"), (TWO_B, "occurring"), (EVEN, "counting"), (AHEAD, "counting")):
            paper = verdict(language, kind)
            self.assert_twins(language, paper, 4 if len(language.letters) > 2 else 8, 20)
        sixty = lengths("ab", 12, (9,)), ("power", "ab" * 10, "aab" * 7, "b" * 19)
        self.assertTrue(is_paper(*sixty))
        self.assert_twins(*sixty, 8, 20)

    def test_papers_that_errors_bear(self):
        for call in (least_forbidding, least_occurring):
            for language in (EVEN, AHEAD, TWO_B):
                with self.assertRaises(NoJudge) as caught:
                    call(language)
                self.assert_twins(language, caught.exception.paper, 3, 1)

    def test_languages_with_many_states(self):
        ring = Language("ab", tuple(((state + 1) % 300, 7 * state % 300) for state in range(300)), (7,))
        for paper in (("power", "", "a", ""), ("power", "b", "aaab", "a" * 4)):
            if is_paper(ring, paper):
                self.assert_twins(ring, paper, 2, 3)


if __name__ == "__main__":
    unittest.main()
