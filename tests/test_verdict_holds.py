"""verdict_holds: every right paper, whoever made it, and nothing else."""

import random
import unittest

from asked import (
    AHEAD, EVEN, EXAMPLES, FIRST, NO_BB, SOME_B, TWO_B, answered, exchanging, found_languages, two_rounds)
from judged import otherwise
from papers_plain import (
    AGAINST, KINDS, are_twins, drawn_papers, has_form, is_paper, judges_like, plain_against, plain_for, plain_kinds,
    plain_table)
from piecesseen.errors import NoJudge
from piecesseen.forbidding import judge_of, least_forbidding
from piecesseen.languages import Language
from piecesseen.makers import beginning, ending, finite, having, lengths
from piecesseen.occurring import is_occurring
from piecesseen.verdicts import is_of, verdict, verdict_holds
from piecesseen.views import views
from plain import ODD_STRINGS, PlainCase, odd_values, texts

GREAT = 10 ** 39 + 7
FILLERS = ["b", "ab", "aab", "c", "A", "occurring", "forbidding", "counting", "power", "short", 2, 3, ("a", "b"),
           (("", 0),)]


def plain_holds(language, kind, thing):
    return plain_for(language, kind, thing) or plain_against(language, kind, thing)


def longer_papers(paper):
    """The same paper with longer powers, and with powers moved into the words beside them."""
    sort, *parts = paper
    if sort == "splice":
        x, y, z, w, e = parts
        return [(sort, x + e, y, z + e, w, e), (sort, x, e + y, z, e + w, e), (sort, x, y, z, w, e * 6)]
    if sort in ("again", "order"):
        x, e, *middle, y = parts
        return [(sort, x + e, e, *middle, y), (sort, x, e * 12, *middle, e + y),
                (sort, x, e, *[e + word + e for word in middle], y)]
    if sort == "power":
        x, s, y = parts
        return [(sort, x + s, s, y), (sort, x, s, s + y), (sort, x + s, s, s + y)]
    x, e, s, f, t, u, y = parts
    return [(sort, x + e, e, s + f, f, t, u + f, y), (sort, x, e + e, s, f * 3, f + t + e, u, f + y)]


class RightPapersTest(PlainCase):
    def assert_holds(self, language, kind, paper):
        self.assertIs(verdict_holds(language, kind, paper), True, paper)
        self.assertIs(verdict_holds(thing=paper, kind=kind, language=language), True)
        for other in KINDS:
            if other != kind:
                self.assertIs(verdict_holds(language, other, paper), False)

    def test_papers_of_verdict(self):
        for language, kind, paper in answered(201):
            self.assert_holds(language, kind, paper)

    def test_longer_powers(self):
        told = []
        for language, kind, paper in answered(201):
            if paper[0] != kind:
                for other in longer_papers(paper):
                    told.append(is_paper(language, other))
                    self.assertIs(verdict_holds(language, kind, other), told[-1], other)
        self.assertGreater(sum(told), 100)

    def test_any_papers(self):
        told = {}
        some = [*found_languages(201), *[EVEN, AHEAD, ~EVEN, ~AHEAD, FIRST, ~FIRST] * 12]
        for seed, language in enumerate(some):
            for paper in drawn_papers(language.letters, seed, 60, 1 if len(language.letters) > 2 else 3):
                kind = AGAINST[paper[0]]
                answer = is_paper(language, paper)
                self.assertIs(verdict_holds(language, kind, paper), answer, paper)
                self.assertFalse(answer and kind in plain_kinds(language))
                told.setdefault(paper[0], []).append(answer)
        for answers in told.values():
            self.assertTrue(10 < sum(answers) < len(answers) - 10)

    def test_greater_numbers_for_occurrences(self):
        for language in found_languages(201):
            answer = "occurring" in plain_kinds(language)
            for width in (1, 2, 3, 5, 8, 9, 40, GREAT):
                wanted = answer and is_occurring(language, min(width, 8 if len(language.letters) == 1 else 3))
                if width < 4 or not answer or wanted:
                    self.assertIs(verdict_holds(language, "occurring", ("occurring", width)), wanted)

    def test_tables_with_other_numbers(self):
        sizes = {"a": [(1, 1), (3, 2), (8, 20)], "ab": [(1, 1), (1, 3), (2, 1), (2, 2), (3, 1)],
                 "bcd": [(1, 2), (1, 1)], "wxyz": [(1, 1), (1, 3)]}
        told = []
        for language in found_languages(201):
            for width, top in sizes.get(language.letters, []):
                table = plain_table(language, width, top)
                if table is None:
                    # A table with any states is none then.
                    every = list(views(language.letters, width, top))
                    table = tuple(sorted((view, at % len(language) if at else 0) for at, view in enumerate(every)))
                    self.assertIs(verdict_holds(language, "counting", ("counting", width, top, table)), False)
                else:
                    told.append(("counting", width, top, table))
                    self.assert_holds(language, "counting", told[-1])
        self.assertTrue(len(told) > 50)

    def test_greater_judges(self):
        for language, kind, paper in answered(201):
            if paper[0] == "forbidding":
                for width in range(1, 6 if len(language.letters) < 3 else 4):
                    other = ("forbidding", judge_of(language, width))
                    self.assertIs(verdict_holds(language, kind, other), width >= paper[1][0])

    def test_judges_with_more_entries(self):
        judge = (3, ("a",), ("ab", "bb"), ("ab", "ba"), ("abb", "bba"))
        language = finite("ab", "a", "abba", "bba")
        self.assert_holds(language, "forbidding", ("forbidding", judge))
        # Nothing comes to "aa" or from it; "bb" is no end of a text; "ba" leads to no other piece.
        for more in ((3, ("a",), ("ab", "bb"), ("aa", "ab", "ba"), ("abb", "bba")),
                     (3, ("a",), ("aa", "ab", "bb"), ("ba",), ("abb", "bba")),
                     (3, ("a",), ("ab", "bb"), ("ba",), ("aaa", "aab", "abb", "bba"))):
            self.assert_holds(language, "forbidding", ("forbidding", more))
        for less in ((3, ("a",), ("ab", "bb"), ("ba",), ("abb", "baa", "bba")),):
            self.assert_holds(language, "forbidding", ("forbidding", less))
        for wrong in ((3, ("a",), ("ab",), ("ba",), ("abb", "bba")), (3, (), ("ab", "bb"), ("ba",), ("abb", "bba")),
                      (3, ("a", "b"), ("ab", "bb"), ("ba",), ("abb", "bba")),
                      (3, ("a",), ("ab", "ba", "bb"), ("ba", "bb"), ("abb", "bba")),
                      (3, ("a",), ("ab", "bb"), ("ba",), ("abb", "bab", "bba")),
                      (3, ("a",), ("ab", "bb"), ("ba",), ("bba",))):
            self.assertIs(verdict_holds(language, "forbidding", ("forbidding", wrong)), False, wrong)

    def test_any_judges(self):
        told = []
        for letters in ("a", "ab", "bcd"):
            some = [language for language in found_languages(201) if language.letters == letters]
            for paper in judges_like(letters, 223, 60):
                for language in some:
                    told.append(plain_for(language, "forbidding", paper))
                    self.assertIs(verdict_holds(language, "forbidding", paper), told[-1])
        self.assertTrue(sum(told) > 10)

    def test_judges_that_accept_a_text_more_or_less(self):
        chance = random.Random(225)
        told = 0
        for language, _, paper in answered(201):
            if paper[0] == "forbidding":
                for _ in range(6):
                    text = "".join(chance.choice(language.letters) for _ in range(chance.randint(0, 5)))
                    one = finite(language.letters, text)
                    other = language - one if text in language else language | one
                    told += 1
                    if len(other) <= 16:
                        self.assertIs(verdict_holds(other, "forbidding", paper), False)
        self.assertTrue(told > 100)


class WrongPapersTest(PlainCase):
    def assert_like_plain(self, language, kind, things):
        told = []
        for thing in things:
            before = repr(thing)
            told.append(verdict_holds(language, kind, thing))
            self.assertIs(told[-1], plain_holds(language, kind, thing), thing)
            self.assertEqual(repr(thing), before)
        return told

    def test_with_one_thing_otherwise(self):
        told = []
        for language, kind in ((NO_BB, "forbidding"), (SOME_B, "occurring"), (SOME_B, "counting"), (TWO_B, "counting"),
                               (SOME_B, "forbidding"), (TWO_B, "occurring"), (EVEN, "counting"), (EVEN, "occurring"),
                               (AHEAD, "counting"), (AHEAD, "forbidding"), (finite("a", "aa"), "forbidding"),
                               (finite("a", "aa"), "counting"), (beginning("ab", "b"), "occurring"),
                               (lengths("a", 3, (1,)), "counting"), (finite("ab"), "forbidding"),
                               (having("a", "a"), "counting"), (lengths("ab", 2, (1,)), "forbidding")):
            things = list(otherwise(verdict(language, kind), FILLERS))
            told += self.assert_like_plain(language, kind, things)
        self.assertTrue(sum(told) > 100)

    def test_papers_with_words_exchanged(self):
        for language in (SOME_B, TWO_B, EVEN, AHEAD, lengths("ab", 3, (0,)), having("ab", "ab", 2)):
            for kind in KINDS:
                if not is_of(language, kind):
                    sort, *words = verdict(language, kind)
                    things = []
                    for one in range(len(words)):
                        for other in range(len(words)):
                            exchanged = list(words)
                            exchanged[one], exchanged[other] = exchanged[other], exchanged[one]
                            things.append((sort, *exchanged))
                        for word in ("", "a", "ab", "c", "ba" * 40, "d", "A", None, True, 1, ("a",), ["a"]):
                            things.append((sort, *words[:one], word, *words[one + 1:]))
                        things.append((sort, *words[:one], *words[one + 1:]))
                        things.append((sort, *words[:one], words[one], *words[one:]))
                    told = self.assert_like_plain(language, kind, things)
                    self.assertTrue(0 < sum(told) < len(told))

    def test_powers_that_may_not_be_empty(self):
        for sort, words in (("splice", ("", "b", "b", "", "")), ("again", ("", "", "b", "")),
                            ("order", ("", "", "b", "a", "")), ("power", ("", "", "")),
                            ("exchange", ("", "", "a", "c", "", "b", "")),
                            ("exchange", ("", "c", "a", "", "", "b", ""))):
            for language, _ in EXAMPLES:
                for kind in KINDS:
                    self.assertIs(verdict_holds(language, kind, (sort, *words)), False)

    def test_words_that_may_be_empty(self):
        self.assertIs(verdict_holds(EVEN, "occurring", ("again", "", "b", "", "")),
                      is_paper(EVEN, ("again", "", "b", "", "")))
        self.assertIs(verdict_holds(lengths("a", 5, (1,)), "occurring", ("again", "", "a", "", "")), True)
        self.assertIs(verdict_holds(lengths("a", 5, (0,)), "occurring", ("again", "", "a", "", "")), False)
        self.assertIs(verdict_holds(AHEAD, "counting", ("exchange", "", "c", "a", "c", "", "b", "")), True)
        self.assertIs(verdict_holds(AHEAD, "occurring", ("order", "", "c", "a", "b", "")), True)
        self.assertIs(verdict_holds(SOME_B, "forbidding", ("splice", "", "b", "b", "", "a")), True)

    def test_papers_of_other_kinds_and_languages(self):
        papers = [paper for _, _, paper in answered(201)]
        chance = random.Random(227)
        for language, kind, _ in answered(201):
            for paper in chance.sample(papers, 8):
                self.assertIs(verdict_holds(language, kind, paper), plain_holds(language, kind, paper))

    def test_tables_with_one_pair_otherwise(self):
        for language, width, top in ((TWO_B, 1, 2), (SOME_B, 2, 1), (finite("a", "aa"), 2, 3)):
            table = plain_table(language, width, top)
            self.assertIs(verdict_holds(language, "counting", ("counting", width, top, table)), True)
            other_views = [("short", "a" * width), ("long", "", "", ()), ("long", "a", "b", (("ba", 1),)),
                           ("long", "a", "a", (("ab", 1),)), ("short", "c"), ("long", "", "", (("a", top + 1),)),
                           ("long", "", "", (("a", True),)), None, "short", ("short",), ["short", ""]]
            changed = [table[::-1], table + table[:1], table[1:] + table[:1], table[0], list(table), table * 2, (),
                       None]
            for at, (view, state) in enumerate(table):
                changed += [table[:at] + table[at + 1:], table[:at] + table[at:at + 1] * 2 + table[at + 1:]]
                for other in (state + 1, (state + 1) % len(language), state - 1, len(language), bool(state),
                              str(state), None):
                    changed += [table[:at] + ((view, other),) + table[at + 1:]]
                    if other.__class__ is int:
                        changed += [tuple(sorted(table + ((view, other),)))]
                for other in other_views:
                    changed += [table[:at] + ((other, state),) + table[at + 1:]]
                    if other.__class__ is tuple and len(other) > 1:
                        changed += [tuple(sorted([*table, (other, state)]))]
                changed += [table[:at] + ([view, state],) + table[at + 1:], table[:at] + ((view,),) + table[at + 1:],
                            table[:at] + ((view, state, 0),) + table[at + 1:],
                            table[:at] + ((state, view),) + table[at + 1:]]
            for thing in changed:
                if repr(thing) != repr(table):
                    self.assertIs(verdict_holds(language, "counting", ("counting", width, top, thing)), False, thing)
            for width_too, top_too in ((width + 1, top), (width, top + 1), (width, GREAT), (GREAT, top), (0, top),
                                       (width, 0),
                                       (True, top), (width, True), (-1, top), (str(width), top), (width, None)):
                if (width_too, top_too) != (width, top) or width_too is True or top_too is True:
                    thing = ("counting", width_too, top_too, table)
                    self.assertIs(verdict_holds(language, "counting", thing), False, thing)

    def test_values_of_every_other_kind(self):
        for language, kind in ((NO_BB, "forbidding"), (SOME_B, "occurring"), (TWO_B, "counting"), (EVEN, "counting")):
            for thing in [*odd_values(), *ODD_STRINGS]:
                self.assertIs(verdict_holds(language, kind, thing), False)
                for sort in (*KINDS, *AGAINST):
                    for more in ((sort, thing), (sort, 2, 2, thing), (sort, *[thing] * 4), [sort, thing],
                                 (thing, sort)):
                        # An integer may be the k for occurrences.
                        if more != ("occurring", thing) or kind != "occurring" or thing.__class__ is not int:
                            wanted = has_form("ab", more) and is_paper(language, more) and AGAINST[sort] == kind
                            self.assertIs(verdict_holds(language, kind, more), wanted, more)

    def test_texts_that_are_twins_a_few_times_are_no_paper(self):
        three = having("ab", "b") & ~TWO_B & ~having("ab", "aaaa")
        for language, kind, paper in ((finite("a", "aaa"), "counting", ("power", "", "a", "")),
                                      (finite("ab", "a" * 9), "counting", ("power", "", "a", "")),
                                      (three, "occurring", ("again", "", "a", "b", "")),
                                      (finite("ab", "ab", "ba"), "forbidding", ("splice", "a", "b", "", "ba", "a"))):
            self.assertTrue(any(are_twins(language, paper, n) for n in range(10)))
            self.assertFalse(any(are_twins(language, paper, n) for n in range(10, 30)))
            self.assertIs(verdict_holds(language, kind, paper), False)

    def test_numbers_for_occurrences(self):
        for thing in (0, -1, True, False, None, "1", (1,), [1], {}, -GREAT):
            self.assertIs(verdict_holds(SOME_B, "occurring", ("occurring", thing)), False)
        for thing in ((), (1, 1), (1, None)):
            self.assertIs(verdict_holds(SOME_B, "occurring", ("occurring", *thing)), False)


class GreatPapersTest(PlainCase):
    def test_judges_with_a_great_k(self):
        for width in (3, 9, 2001, GREAT):
            for held in ((), ("",), ("", "b", "ab")):
                judge = (width, held, (), (), ())
                for language in (finite("ab", *held), NO_BB, ~finite("ab"), lengths("ab", 12, (5,)), finite("ab", "a")):
                    self.assertIs(verdict_holds(language, "forbidding", ("forbidding", judge)),
                                  language == finite("ab", *held))
        every = tuple("a" * many for many in range(2000))
        self.assertIs(verdict_holds(~finite("a"), "forbidding", ("forbidding", (GREAT, every, (), (), ()))), False)
        self.assertIs(verdict_holds(lengths("a", 12, (0,)), "forbidding",
                                    ("forbidding", (GREAT, every[::12], (), (), ()))),
                      False)
        self.assertIs(verdict_holds(finite("ab", *texts("ab", 2)), "forbidding",
                                    ("forbidding", (GREAT, tuple(texts("ab", 2)), (), (), ()))), True)

    def test_judges_with_long_entries(self):
        only_a = ~having("ab", "b")
        shorter = tuple("a" * many for many in range(2000))
        judge = (2000, shorter, ("a" * 1999,), ("a" * 1999,), ("a" * 2000,))
        more = (2000, shorter, ("a" * 1999, "b" * 1999), ("a" * 1999, "b" * 1999), ("a" * 2000, "b" * 1999 + "a"))
        for wrong_at in range(1, 5):
            less = judge[:wrong_at] + (judge[wrong_at][:-1],) + judge[wrong_at + 1:]
            self.assertIs(verdict_holds(only_a, "forbidding", ("forbidding", less)), False)
        self.assertIs(verdict_holds(only_a, "forbidding", ("forbidding", judge)), True)
        for right in (more[:4] + judge[4:], judge[:2] + more[2:3] + judge[3:], judge[:3] + more[3:], more):
            self.assertIs(verdict_holds(only_a, "forbidding", ("forbidding", right)), True)
        wrong = more[:3] + (("a" * 1999, "b" * 1998 + "a"),) + more[4:]
        self.assertIs(verdict_holds(only_a, "forbidding", ("forbidding", wrong)), False)

    def test_judges_with_very_many_entries(self):
        chance = random.Random(229)
        words = tuple(sorted({"".join(chance.choice("ab") for _ in range(2000)) for _ in range(1500)}))
        for judge in ((2001, words, (), (), ()), (2001, (), words, (), ()), (2001, (), (), words, ()),
                      (2000, (), (), (), words), (2001, words, words, words, ()), (GREAT, words, (), (), ())):
            for language in (finite("ab"), NO_BB, ~finite("ab")):
                paper = ("forbidding", judge)
                wanted = language == finite("ab") and not judge[1]
                self.assertIs(verdict_holds(language, "forbidding", paper), wanted)

    def test_tables_with_great_numbers(self):
        for width, top in ((GREAT, 1), (1, GREAT), (GREAT, GREAT), (2000, 3)):
            shorter = tuple((("short", "a" * many), min(many, 1)) for many in range(1999))
            for table in ((), ((("short", ""), 0),), shorter,
                          tuple(sorted((("long", "", "", (("a", many),)), 1) for many in range(1, 1999))) + shorter[:1]):
                self.assertIs(verdict_holds(having("a", "a"), "counting", ("counting", width, top, table)), False)
        table = tuple(sorted([(("short", "a" * many), min(many, 1)) for many in range(1990)]
                             + [(("long", "a" * 1989, "a" * 1989, (("a" * 1990, many),)), 1) for many in range(1, 5)]))
        self.assertIs(verdict_holds(having("a", "a"), "counting", ("counting", 1990, 4, table)), True)
        self.assertIs(verdict_holds(having("a", "a"), "counting", ("counting", 1990, 5, table)), False)
        table = tuple(sorted([(("short", ""), 0)] + [(("long", "", "", (("a", many),)), 1) for many in range(1, 5001)]))
        self.assertIs(verdict_holds(having("a", "a"), "counting", ("counting", 1, 5000, table)), True)
        self.assertIs(verdict_holds(having("a", "a"), "counting", ("counting", 1, 4999, table)), False)

    def test_powers_with_any_period(self):
        for one, other in ((3, 5), (7, 8), (4, 11), (9, 7)):
            # The number of a divided by one number, behind it the number of b divided by the other one.
            rows = tuple(((at + 1) % one, one) for at in range(one))
            rows += tuple((one + other, one + (at + 1) % other) for at in range(other)) + ((one + other,) * 2,)
            language = Language("ab", rows, (one + 1,))
            self.assertLessEqual(len(language), 17)
            for paper in (("power", "", "a", "b"), ("power", "a", "b", ""), ("power", "ab", "b" * other, ""),
                          ("power", "", "a" * one, "bb"), ("again", "", "a", "", "b"), ("again", "", "ab", "b", "")):
                kind = AGAINST[paper[0]]
                self.assertIs(verdict_holds(language, kind, paper), is_paper(language, paper), paper)

    def test_two_periods_in_one_word(self):
        # Only where n leaves one rest for one number and another rest for the other one are there twins.
        paper = ("again", "", "a", "b", "")
        for one, other in ((5, 7), (3, 4), (4, 6), (2, 2), (7, 5)):
            for end in range(other):
                language = two_rounds(one, other, end)
                wanted = any(n % one == 0 and n % other == end for n in range(one * other))
                self.assertIs(verdict_holds(language, "occurring", paper), wanted)
                self.assertIs(is_paper(language, paper), wanted)

    def test_two_periods_in_two_words(self):
        for end in range(18):
            language = exchanging(end)
            for paper in (("exchange", "", "c", "a", "d", "", "b", ""),
                          ("exchange", "c", "c", "ab", "ddcd", "c", "b", "d"),
                          ("exchange", "", "c", "a", "d", "c", "b", "dd"),
                          ("exchange", "", "a", "c", "d", "", "b", "")):
                self.assertIs(verdict_holds(language, "counting", paper), is_paper(language, paper))

    def test_long_words(self):
        long = "ab" * 1000
        self.assertIs(verdict_holds(EVEN, "counting", ("power", long, "b", long)), True)
        self.assertIs(verdict_holds(EVEN, "counting", ("power", long, long, long)), False)
        self.assertIs(verdict_holds(EVEN, "counting", ("power", long, long + "b", long)), True)
        self.assertIs(verdict_holds(SOME_B, "forbidding", ("splice", "a" * 2000, long, long, "a" * 2000, "a" * 2000)),
                      True)
        self.assertIs(verdict_holds(AHEAD, "counting",
                                    ("exchange", "c" * 2000, "c" * 2000, "a" * 2000, "c", "c" * 1999, "b" * 2000,
                                     "c")), True)

    def test_many_states(self):
        fifteen = Language("ab", tuple(((state + 1) % 16, state) for state in range(16)), (3, 8))
        every = having("abcd", "a") & having("abcd", "b") & having("abcd", "c") & having("abcd", "d")
        chain = Language("ab", tuple((min(state + 1, 15), 15) for state in range(16)), (5, 9))
        ten = having("ab", "b", 6) & ending("ab", "a")
        for language in (fifteen, ~fifteen, every, ~every, chain, ten):
            for kind in KINDS:
                # A language without a judge with few views is not asked about counts.
                if kind != "counting" or language != chain:
                    paper = verdict(language, kind)
                    self.assertIs(verdict_holds(language, kind, paper), True)
                    self.assertIs(is_of(language, kind), paper[0] == kind)

    def test_errors_bear_papers(self):
        for language in (EVEN, AHEAD, TWO_B):
            with self.assertRaises(NoJudge) as caught:
                least_forbidding(language)
            self.assertIs(verdict_holds(language, "forbidding", caught.exception.paper), True)


if __name__ == "__main__":
    unittest.main()
