"""The examples of the document."""

import unittest

from papers_plain import is_paper, texts_for
from piecesseen.counting import corners, is_counting, table_of
from piecesseen.errors import NoJudge, Unjudged
from piecesseen.findings import finding_holds
from piecesseen.forbidding import judge_of, least_forbidding
from piecesseen.languages import Language
from piecesseen.makers import finite, having
from piecesseen.occurring import is_occurring, least_occurring
from piecesseen.shadows import core, shadow
from piecesseen.verdicts import is_of, twins, verdict, verdict_holds
from piecesseen.views import joined, view_of
from piecesseen.watching import fewest_watched, is_enough, watching_holds
from plain import PlainCase


class ExamplesTest(PlainCase):
    def test_views(self):
        self.assertEqual(view_of(2, 2, "abab"), ("long", "a", "b", (("ab", 2), ("ba", 1))))
        self.assertEqual(view_of(3, 1, "ab"), ("short", "ab"))
        self.assertEqual(view_of(1, 2, "aaab"), ("long", "", "", (("a", 2), ("b", 1))))

    def test_joined(self):
        self.assertEqual(joined(2, 2, view_of(2, 2, "ab"), view_of(2, 2, "ba")), view_of(2, 2, "abba"))
        self.assertEqual(view_of(2, 2, "abba"), ("long", "a", "a", (("ab", 1), ("ba", 1), ("bb", 1))))

    def test_no_b_behind_a_b(self):
        language = ~having("ab", "bb")
        self.assertEqual(least_forbidding(language), 2)
        self.assertEqual(judge_of(language, 2), (2, ("", "a", "b"), ("a", "b"), ("a", "b"), ("aa", "ab", "ba")))

    def test_some_b(self):
        language = having("ab", "b")
        with self.assertRaises(NoJudge) as caught:
            least_forbidding(language)
        self.assertTrue(is_paper(language, caught.exception.paper))
        self.assertEqual(least_occurring(language), 1)

    def test_two_b(self):
        language = having("ab", "b", 2)
        self.assertTrue(is_counting(language, 1, 2))
        with self.assertRaises(NoJudge) as caught:
            least_occurring(language)
        self.assertTrue(is_paper(language, caught.exception.paper))
        self.assertFalse(is_occurring(language, 1) or is_occurring(language, 6))

    def test_an_even_number_of_b(self):
        language = Language("ab", ((0, 1), (1, 0)), (0,))
        self.assertRaises(NoJudge, least_forbidding, language)
        self.assertRaises(NoJudge, least_occurring, language)
        for width, top in ((1, 20), (2, 3), (3, 2)):
            self.assertFalse(is_counting(language, width, top))
            self.assertRaises(Unjudged, table_of, language, width, top)

    def test_some_a_ahead_of_some_b(self):
        language = Language("abc", ((1, 0, 0), (1, 2, 1), (2, 2, 2)), (2,))
        self.assertEqual(("acb" in language, "bcac" in language, "ccab" in language), (True, False, True))
        self.assertEqual((corners(language, 1, 16), corners(language, 2, 1)), ((), ()))

    def test_the_text_of_a_language(self):
        self.assertEqual(str(having("ab", "b")), "letters ab\nends 1\n0 1\n1 1")

    def test_the_overview(self):
        no_bb, some_b, two_b = ~having("ab", "bb"), having("ab", "b"), having("ab", "b", 2)
        even = Language("ab", ((0, 1), (1, 0)), (0,))
        for language, kinds in ((no_bb, ["forbidding", "occurring", "counting"]), (some_b, ["occurring", "counting"]),
                                (two_b, ["counting"]), (even, [])):
            told = [kind for kind in ("forbidding", "occurring", "counting") if is_of(language, kind)]
            self.assertEqual(told, kinds)
        self.assertEqual(verdict(some_b, "occurring"), ("occurring", 1))

    def test_papers(self):
        ahead = Language("abc", ((1, 0, 0), (1, 2, 1), (2, 2, 2)), (2,))
        even = Language("ab", ((0, 1), (1, 0)), (0,))
        for language, kind, paper in (
                (having("ab", "b"), "forbidding", ("splice", "", "b", "b", "", "a")),
                (having("ab", "b", 2), "occurring", ("again", "", "a", "b", "")),
                (even, "counting", ("power", "", "b", "")),
                (ahead, "counting", ("exchange", "", "c", "a", "c", "", "b", ""))):
            self.assertIs(verdict_holds(language, kind, paper), True)
            self.assertNotEqual(verdict(language, kind)[0], kind)
            self.assertIs(finding_holds(("unjudged", str(language), kind, paper)), True)
            self.assertEqual(twins(language, paper, 2, 1), texts_for(paper, 3))
        for kind, paper in (("forbidding", ("splice", "", "b", "b", "", "b")),
                            ("occurring", ("again", "", "b", "b", "")),
                            ("counting", ("power", "", "b", ""))):
            self.assertIs(verdict_holds(even, kind, paper), is_paper(even, paper))

    def test_no_b_behind_a_b_as_a_paper(self):
        judge = (2, ("", "a", "b"), ("a", "b"), ("a", "b"), ("aa", "ab", "ba"))
        self.assertEqual(verdict(~having("ab", "bb"), "forbidding"), ("forbidding", judge))
        self.assertIs(verdict_holds(~having("ab", "bb"), "forbidding", ("forbidding", judge)), True)

    def test_shadow_and_core(self):
        two_b = having("ab", "b", 2)
        self.assertEqual(shadow(two_b, 1), having("ab", "b"))
        self.assertEqual(core(two_b, 1), finite("ab"))
        self.assertEqual(view_of(1, 1, "b"), view_of(1, 1, "bb"))
        self.assertEqual(view_of(1, 1, "ab"), view_of(1, 1, "abb"))

    def test_watched_pieces(self):
        language = having("ab", "bb")
        paper = (("bb",), (((), "bb", "bab"),))
        self.assertEqual(fewest_watched(language, 2, 1)[0], ("bb",))
        self.assertIs(watching_holds(language, 2, 1, paper), True)
        self.assertIs(is_enough(language, 2, 1, ("bb",)), True)
        self.assertIs(is_enough(language, 2, 1, ()), False)

    def test_the_watched_example_looks_the_same(self):
        # Of the pair of the last example only the counts differ, and "b" is told whole.
        self.assertEqual(view_of(2, 1, "bb")[:3], view_of(2, 1, "bab")[:3])
        self.assertEqual(view_of(2, 1, "b"), ("short", "b"))


if __name__ == "__main__":
    unittest.main()
