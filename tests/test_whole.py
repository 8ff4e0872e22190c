"""What the document promises over the whole program: verdicts, shadows, judges, kept texts and findings together."""

import random
import unittest

from asked import AHEAD, EVEN, FIRST, TWO_B, answered, found_languages
from judged import drawn
from papers_plain import KINDS, is_within, plain_against, plain_for
from piecesseen.counting import corners, is_counting, table_of
from piecesseen.errors import NoJudge, Unjudged
from piecesseen.findings import finding_holds
from piecesseen.forbidding import accepts, is_judge, judge_of, language_of, learned, least_forbidding
from piecesseen.judges import Judge, Stream
from piecesseen.kept import Kept
from piecesseen.languages import Language
from piecesseen.occurring import is_occurring, least_occurring
from piecesseen.shadows import common_view, core, shadow
from piecesseen.verdicts import is_of, twins, verdict, verdict_holds
from piecesseen.views import first_text, joined, repeated, view_behind, view_holds, view_of, views
from piecesseen.watching import fewest_watched, is_enough, watching_holds
from plain import PlainCase, texts

SIZES = {"a": [(1, 2), (4, 3)], "ab": [(1, 3), (2, 2)], "abc": [(1, 2)], "bcd": [(1, 2), (2, 1)], "wxyz": [(1, 1)]}


def numbers(language):
    """k and t with which a language is judged by counts, or None."""
    for width, top in SIZES[language.letters]:
        if is_counting(language, width, top):
            return width, top
    return None


def samples(letters, seed, many=12, longest=25):
    chance = random.Random(seed)
    return ["".join(chance.choice(letters) for _ in range(chance.randint(0, longest))) for _ in range(many)]


def streamed(judge, text):
    """A stream that has seen a text."""
    stream = Stream(judge)
    for letter in text:
        stream.saw(letter)
    return stream


class VerdictsTest(PlainCase):
    def test_just_one_of_two_papers(self):
        papers = [(kind, paper) for _, kind, paper in answered(201)]
        chance = random.Random(261)
        for language, kind, paper in answered(201):
            self.assertIs(verdict_holds(language, kind, paper), True)
            self.assertIs(is_of(language, kind), paper[0] == kind)
            # Whatever else is accepted is of the same sort.
            others = [other for about, other in chance.sample(papers, 20) if about == kind]
            for other in [other for other in others if verdict_holds(language, kind, other)]:
                self.assertEqual(other[0] == kind, paper[0] == kind)
                self.assertTrue(plain_for(language, kind, other) or plain_against(language, kind, other))

    def test_a_kind_and_the_wider_ones(self):
        for language in found_languages(201):
            told = [is_of(language, kind) for kind in KINDS]
            self.assertEqual(told, sorted(told))

    def test_twins_before_judges_that_learn(self):
        for language, _, paper in answered(201):
            if paper[0] == "splice":
                for width in (1, 2, 4):
                    one, other, third = twins(language, paper, width)
                    self.assertEqual([text in language for text in (one, other, third)], [True, True, False])
                    self.assertTrue(accepts(learned(width, one, other), third))
                    self.assertTrue(accepts(judge_of(language, width), third))
                    self.assertNotEqual(language_of(language.letters, judge_of(language, width)), language)

    def test_twins_before_every_judge_stream_and_kept_text(self):
        judges = {letters: [(language, *numbers(language)) for language in found_languages(201)
                            if language.letters == letters and numbers(language)] for letters in SIZES}
        told = 0
        for language, kind, paper in answered(201):
            if kind == "counting" and paper[0] != kind:
                for other, width, top in judges[language.letters][::3]:
                    told += 1
                    one, two = twins(language, paper, width, top)
                    judge = Judge(other, width, top)
                    self.assertEqual(judge(one), judge(two))
                    streams = streamed(judge, one), streamed(judge, two)
                    self.assertEqual(streams[0].view, streams[1].view)
                    self.assertEqual(streams[0].answer, streams[1].answer)
                    kept = Kept(language.letters, width, top, one), Kept(language.letters, width, top, two)
                    self.assertEqual(kept[0].view, kept[1].view)
                    self.assertNotEqual(one in language, two in language)
        self.assertGreater(told, 100)

    def test_the_least_numbers(self):
        for language in found_languages(201):
            for kind, least in (("forbidding", least_forbidding), ("occurring", least_occurring)):
                if is_within(language, kind):
                    paper = verdict(language, kind)
                    try:
                        width = least(language)
                        self.assertEqual(paper, (kind, judge_of(language, width) if kind == "forbidding" else width))
                        self.assertTrue(finding_holds(("judged", str(language), kind, paper)))
                    except NoJudge as error:
                        self.assertNotEqual(paper[0], kind)
                        self.assertTrue(verdict_holds(language, kind, error.paper))
                        self.assertTrue(finding_holds(("unjudged", str(language), kind, error.paper)))


class JudgesTest(PlainCase):
    def test_languages_joined_against_the_judges_of_their_parts(self):
        chance = random.Random(262)
        for letters in SIZES:
            for width, top in SIZES[letters]:
                some = [language for language in found_languages(201)
                        if language.letters == letters and is_counting(language, width, top)]
                for _ in range(12 if some else 0):
                    one, other = chance.choice(some), chance.choice(some)
                    judge, twin = Judge(one, width, top), Judge(other, width, top)
                    made = [(one | other, lambda a, b: a or b), (one & other, lambda a, b: a and b),
                            (one - other, lambda a, b: a and not b), (~one, lambda a, b: not a)]
                    for language, wanted in made:
                        both = Judge(language, width, top)
                        for text in samples(letters, 263):
                            answer = wanted(judge(text), twin(text))
                            self.assertIs(both(text), answer)
                            self.assertIs(streamed(both, text).answer, answer)
                            self.assertIs(both.at(view_of(width, top, text)), answer)

    def test_views_of_joined_texts_are_told_by_the_parts(self):
        for language in found_languages(201)[::3]:
            if numbers(language):
                width, top = numbers(language)
                judge = Judge(language, width, top)
                found = samples(language.letters, 264, 6)
                for one, other in zip(found, found[1:]):
                    view = joined(width, top, view_of(width, top, one), view_of(width, top, other))
                    both = streamed(judge, one).followed(streamed(judge, other))
                    kept = Kept(language.letters, width, top, one)
                    kept.put(len(one), other)
                    self.assertEqual((both.view, kept.view), (view, view))
                    self.assertIs(judge.at(view), one + other in language)
                    self.assertIs(both.answer, one + other in language)
                    three = repeated(width, top, view_of(width, top, one), 3)
                    self.assertIs(judge.at(three), one * 3 in language)
                    for letter in language.letters:
                        self.assertIs(judge.at(view_behind(width, top, view, letter)), one + other + letter in language)

    def test_every_view_and_its_first_text(self):
        for language in found_languages(201)[::2]:
            if numbers(language):
                width, top = numbers(language)
                judge = Judge(language, width, top)
                table = dict(table_of(language, width, top))
                for view in views(language.letters, width, top):
                    text = first_text(language.letters, width, top, view)
                    self.assertIs(judge.at(view), text in language)
                    self.assertIs(table[view] in language.ends, text in language)
                    self.assertIs(view_holds(language.letters, width, top, view), True)

    def test_no_two_texts_where_a_judge_is_right(self):
        for language in found_languages(201):
            for width, top in SIZES[language.letters]:
                judged = is_counting(language, width, top)
                self.assertIs(common_view(language, ~language, width, top) is None, judged)
                self.assertIs(shadow(language, width, top) == language, judged)
                self.assertIs(core(language, width, top) == language, judged)
                if judged:
                    self.assertTrue(is_of(language, "counting"))
                    self.assertTrue(any(one <= width and two <= top for one, two in corners(language, width, top)))
                    paper = fewest_watched(language, width, top)
                    self.assertTrue(watching_holds(language, width, top, paper))
                    self.assertTrue(is_enough(language, width, top, paper[0]))
                    self.assertEqual(Judge(language, width, top).width, width)
                else:
                    with self.assertRaises(Unjudged) as caught:
                        Judge(language, width, top)
                    self.assertTrue(finding_holds(("alike", width, top, *caught.exception.pair)))
                    self.assertTrue(finding_holds(("common", str(language), str(~language), width, top,
                                                   *caught.exception.pair)))
                if top == 1:
                    self.assertIs(is_occurring(language, width), judged)

    def test_shadows_have_judges(self):
        for language in found_languages(201)[::3]:
            for width, top in SIZES[language.letters]:
                around, within = shadow(language, width, top), core(language, width, top)
                judge, twin = Judge(around, width, top), Judge(within, width, top)
                for text in samples(language.letters, 265) + texts(language.letters, 2):
                    self.assertTrue(judge(text) or text not in language)
                    self.assertTrue(text in language or not twin(text))
                self.assertTrue(finding_holds(("shadow", str(language), width, top, str(around))))
                self.assertTrue(finding_holds(("core", str(language), width, top, str(within))))


class OtherFormsTest(PlainCase):
    def test_read_back_from_their_texts(self):
        for language, kind, paper in answered(201)[::3]:
            other = Language.read(str(language))
            self.assertEqual(verdict(other, kind), paper)
            self.assertEqual(other.__class__.read(str(~~other)), language)

    def test_turned(self):
        # A judge sees as much of a text that is read backward.
        for language in found_languages(201):
            if len(language) <= 8:
                back = language.turned()
                if len(back) <= 16:
                    for kind in KINDS:
                        if is_within(language, kind) and is_within(back, kind):
                            self.assertIs(is_of(back, kind), is_of(language, kind))
                    for width, top in SIZES[language.letters]:
                        self.assertIs(is_counting(back, width, top), is_counting(language, width, top))
                        around = shadow(back, width, top)
                        if len(around) <= 12:
                            self.assertEqual(around.turned(), shadow(language, width, top))
                    if is_of(language, "forbidding") and is_within(language, "forbidding"):
                        self.assertEqual(least_forbidding(back), least_forbidding(language))

    def test_with_other_letters(self):
        others = {"a": "q", "ab": "xz", "abc": "bde", "bcd": "abc", "wxyz": "abcd"}
        for language, kind, paper in answered(201)[::2]:
            letters = others[language.letters]
            table = str.maketrans(language.letters, letters)
            other = language.with_letters(letters)
            other_paper = verdict(other, kind)
            self.assertEqual(other_paper[0], paper[0])
            if paper[0] in KINDS:
                self.assertEqual(other_paper[1:2] if kind != "forbidding" else other_paper[1][:1],
                                 paper[1:2] if kind != "forbidding" else paper[1][:1])
            else:
                renamed = (paper[0], *[word.translate(table) for word in paper[1:]])
                self.assertIs(verdict_holds(other, kind, renamed), True)
                self.assertEqual(twins(other, renamed, 2, 2),
                                 tuple(text.translate(table) for text in twins(language, paper, 2, 2)))

    def test_with_a_letter_more(self):
        # The new letter never occurs in a text: only one that it is not there has to be known besides.
        for language in found_languages(201):
            if language.letters == "ab" and len(language) < 10:
                dead = len(language)
                more = Language("abc", tuple(row + (dead,) for row in language.rows) + ((dead,) * 3,), language.ends)
                for text in samples("abc", 266, 6, 4) + texts("ab", 3):
                    self.assertIs(text in more, text in language)
                for kind in KINDS:
                    if is_within(language, kind) and is_within(more, kind):
                        self.assertIs(is_of(more, kind), is_of(language, kind))
                        paper = verdict(language, kind)
                        if paper[0] not in KINDS:
                            self.assertIs(verdict_holds(more, kind, paper), True)
                            self.assertEqual(twins(more, paper, 2, 1), twins(language, paper, 2, 1))
                for width, top in ((1, 1), (1, 3)):
                    self.assertIs(is_counting(more, width, top), is_counting(language, width, top))

    def test_drawn_machines(self):
        for letters, most in (("ab", 3), ("abc", 3), ("a", 12)):
            for language in drawn(267, 40, letters, most):
                for kind in KINDS:
                    if is_within(language, kind):
                        paper = verdict(language, kind)
                        word = "judged" if paper[0] == kind else "unjudged"
                        self.assertTrue(finding_holds((word, str(language), kind, paper)))
                        other = "unjudged" if paper[0] == kind else "judged"
                        self.assertFalse(finding_holds((other, str(language), kind, paper)))

    def test_judges_are_judges(self):
        for language, _, paper in answered(201):
            if paper[0] == "forbidding":
                self.assertTrue(is_judge(language.letters, paper[1]))
                self.assertEqual(language_of(language.letters, paper[1]), language)

    def test_languages_stay_as_they_are(self):
        for language in (EVEN, AHEAD, FIRST, TWO_B):
            before = str(language), language.rows, language.ends
            for kind in KINDS:
                paper = verdict(language, kind)
                verdict_holds(language, kind, paper)
                is_of(language, kind)
            for width in (1, 2):
                shadow(language, width)
                core(language, width)
                common_view(language, ~language, width)
            self.assertEqual((str(language), language.rows, language.ends), before)


if __name__ == "__main__":
    unittest.main()
