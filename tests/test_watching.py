"""is_enough, fewest_watched and watching_holds, beside a walk through watched views and states."""

import functools
import itertools
import unittest

from asked import AHEAD, EVEN, SOME_B, TWO_B, found_languages
from judged import otherwise, plain_view, words
from papers_plain import same
from piecesseen.counting import is_counting, table_of
from piecesseen.errors import Unjudged
from piecesseen.languages import Language
from piecesseen.makers import beginning, ending, finite, having, lengths
from piecesseen.watching import fewest_watched, is_enough, watching_holds
from plain import ODD_STRINGS, PlainCase, odd_values, run, texts

SIZES = {"a": [(1, 1), (3, 2), (8, 5)], "ab": [(1, 1), (1, 3), (2, 1), (2, 2)], "abc": [(1, 1)],
         "bcd": [(1, 1), (1, 2)],
         "wxyz": [(1, 1)]}


def watched_view(letters, width, top, text, watched):
    """The watched view of a text."""
    view = plain_view(letters, width, top, text)
    if view[0] == "short":
        return view
    return view[:3] + (tuple(pair for pair in view[3] if pair[0] in watched),)


@functools.cache
def enough_by_text(written, width, top, watched):
    """is_enough for the language with a text, by all watched views and states, found once for all tests."""
    language = Language.read(written)
    letters = language.letters
    seen = {(("short", ""), 0): ""}
    waiting = list(seen)
    answers = {}
    for pair in waiting:
        text = seen[pair]
        if answers.setdefault(pair[0], text in language) != (text in language):
            return False
        for letter in letters:
            found = (watched_view(letters, width, top, text + letter, watched),
                     run(letters, language.rows, 0, text + letter))
            if found not in seen:
                seen[found] = text + letter
                waiting.append(found)
    return True


def plain_enough(language, width, top, watched):
    return enough_by_text(str(language), width, top, watched)


def tuples(letters, width, many):
    """All ascending tuples of so many words of k letters, ascending."""
    return list(itertools.combinations(words(letters, width), many))


def all_tuples(letters, width):
    return [watched for many in range(len(letters) ** width + 1) for watched in tuples(letters, width, many)]


def plain_paper(language, width, top, thing):
    """Whether a value is a watching paper, item by item."""
    letters = language.letters
    if thing.__class__ is not tuple or [part.__class__ for part in thing] != [tuple, tuple]:
        return False
    pieces, shown = thing
    if not any(same(pieces, watched) for watched in all_tuples(letters, width)):
        return False
    smaller = tuples(letters, width, len(pieces) - 1) if pieces else []
    if len(shown) != len(smaller) or not plain_enough(language, width, top, pieces):
        return False
    for others, item in zip(smaller, shown):
        if item.__class__ is not tuple or len(item) != 3 or not same(item[0], others):
            return False
        if any(text.__class__ is not str or set(text) - set(letters) for text in item[1:]):
            return False
        if item[1] not in language or item[2] in language:
            return False
        one, other = [watched_view(letters, width, top, text, others) for text in item[1:]]
        if one != other:
            return False
    return True


def judged(sizes=None):
    """(language, k, t) for languages that are judged by counts with these numbers."""
    return [(language, width, top) for language in found_languages(231, 8)
            for width, top in (sizes or SIZES)[language.letters] if is_counting(language, width, top)]


class IsEnoughTest(PlainCase):
    def test_all_tuples(self):
        told = []
        for language in found_languages(231, 8):
            for width, top in SIZES[language.letters]:
                for watched in all_tuples(language.letters, width):
                    told.append(is_enough(language, width, top, watched))
                    self.assertIs(told[-1], plain_enough(language, width, top, watched))
        self.assertTrue(200 < sum(told) < len(told) - 200)

    def test_eight_and_nine_words(self):
        for language, width, top, needed in ((having("ab", "aba"), 3, 1, ("aba",)),
                                             (having("ab", "abb", 2), 3, 2, ("abb",)),
                                             (having("abc", "ab") | having("abc", "cc"), 2, 1, ("ab", "cc"))):
            every = words(language.letters, width)
            for watched in [(), needed, needed[1:], tuple(every), tuple(every[1:]), tuple(every[::2])]:
                self.assertIs(is_enough(language, width, top, watched), plain_enough(language, width, top, watched))

    def test_more_pieces_keep_true(self):
        for language, width, top in judged():
            told = {watched: is_enough(language, width, top, watched)
                    for watched in all_tuples(language.letters, width)}
            self.assertIs(told[tuple(words(language.letters, width))], True)
            for watched, answer in told.items():
                for less in itertools.combinations(watched, max(len(watched) - 1, 0)):
                    self.assertFalse(told[less] and not answer)

    def test_by_hand(self):
        self.assertIs(is_enough(having("ab", "bb"), 2, 1, ("bb",)), True)
        self.assertIs(is_enough(having("ab", "bb"), 2, 1, ()), False)
        self.assertIs(is_enough(having("ab", "bb"), 2, 1, ("aa", "ab", "ba")), False)
        self.assertIs(is_enough(beginning("ab", "b"), 2, 1, ()), True)
        self.assertIs(is_enough(EVEN, 2, 2, ("aa", "ab", "ba", "bb")), False)
        self.assertIs(is_enough(pieces=("b",), top=2, width=1, language=TWO_B), True)
        self.assertIs(is_enough(pieces=("b",), top=1, width=1, language=TWO_B), False)


class FewestWatchedTest(PlainCase):
    def assert_fewest(self, language, width, top):
        paper = fewest_watched(language, width, top)
        self.assertTrue(plain_paper(language, width, top, paper), paper)
        self.assertTrue(same(fewest_watched(language, width, top), paper))
        self.assertTrue(same(fewest_watched(top=top, width=width, language=language), paper))
        self.assertIs(watching_holds(language, width, top, paper), True)
        pieces, shown = paper
        for fewer in range(len(pieces)):
            for others in tuples(language.letters, width, fewer):
                self.assertFalse(plain_enough(language, width, top, others))
        self.assertEqual([item[0] for item in shown], tuples(language.letters, width,
                                                             len(pieces) - 1) if pieces else [])
        return len(pieces)

    def test_against_all_tuples(self):
        told = [self.assert_fewest(language, width, top) for language, width, top in judged()]
        self.assertTrue(all(told.count(many) > 3 for many in (0, 1, 2)) and max(told) > 2)

    def test_eight_and_nine_words(self):
        for language, width, top, many in ((having("ab", "aba"), 3, 1, 1),
                                           (having("abc", "ab") | having("abc", "cc"), 2, 1, 2),
                                           (having("ab", "aaa") | having("ab", "bbb"), 3, 2, 2),
                                           (~finite("abc"), 2, 1, 0),
                                           (having("ab", "abb", 2), 3, 2, 1), (having("abcd", "c", 3), 1, 7, 1)):
            self.assertEqual(self.assert_fewest(language, width, top), many)
        five = having("abc", "aa") | having("abc", "bb") | having("abc", "cc")
        five = five | having("abc", "ab") | having("abc", "ca")
        pieces, shown = fewest_watched(five, 2, 1)
        self.assertEqual(len(shown), len(tuples("abc", 2, len(pieces) - 1)))
        self.assertIs(watching_holds(five, 2, 1, (pieces, shown)), True)

    def test_no_piece_must_be_watched(self):
        for language, width, top in ((finite("ab"), 1, 1), (~finite("bcd"), 1, 2), (beginning("ab", "b"), 2, 1),
                                     (ending("ab", "ab"), 3, 1), (finite("a", "a"), 2, 3),
                                     (finite("ab", "", "b"), 2, 2),
                                     (beginning("ab", "a") & ending("ab", "b"), 2, 2)):
            self.assertEqual(fewest_watched(language, width, top), ((), ()))
            self.assertIs(watching_holds(language, width, top, ((), ())), True)

    def test_all_pieces_must_be_watched(self):
        every = having("bcd", "b", 1) & having("bcd", "c", 2) & having("bcd", "d", 3)
        self.assertEqual(fewest_watched(every, 1, 3)[0], ("b", "c", "d"))
        self.assertEqual(fewest_watched(having("a", "a", 3), 1, 3)[0], ("a",))

    def test_not_judged_with_these_numbers(self):
        told = 0
        for language in found_languages(231, 8):
            for width, top in SIZES[language.letters]:
                if not is_counting(language, width, top):
                    told += 1
                    with self.assertRaises(Unjudged) as caught:
                        table_of(language, width, top)
                    pair = caught.exception.pair
                    self.assertEqual([text in language for text in pair], [True, False])
                    self.assert_error(Unjudged, "pair", pair, fewest_watched, language, width, top)
                    self.assert_error(Unjudged, "pair", pair, fewest_watched, top=top, width=width, language=language)
        self.assertGreater(told, 50)

    def test_by_hand(self):
        pieces, shown = fewest_watched(having("ab", "bb"), 2, 1)
        self.assertEqual((pieces, [item[0] for item in shown]), (("bb",), [()]))
        self.assertEqual(fewest_watched(SOME_B, 1, 1)[0], ("b",))
        self.assertEqual(fewest_watched(having("ab", "ab"), 2, 2)[0], ("ab",))


class WatchingHoldsTest(PlainCase):
    def test_other_right_papers(self):
        told = 0
        for language, width, top in judged()[::2]:
            pieces, shown = fewest_watched(language, width, top)
            letters = language.letters
            for other_pieces in tuples(letters, width, len(pieces)):
                right = plain_enough(language, width, top, other_pieces)
                self.assertIs(watching_holds(language, width, top, (other_pieces, shown)), right)
                told += right and other_pieces != pieces
            if pieces:
                # Other texts with the same watched views, and the same ones with more letters behind them.
                others, text, other = shown[-1]
                for one, two in ((text, other), (other, text),
                                 *[(text + end, other + end) for end in texts(letters, 2)],
                                 *[(end + text, end + other) for end in texts(letters, 2)], (text, text),
                                 (other, other),
                                 (text + letters[0], other), (text, other + letters[-1])):
                    thing = pieces, shown[:-1] + ((others, one, two),)
                    self.assertIs(watching_holds(language, width, top, thing), plain_paper(language, width, top, thing))
        self.assertGreater(told, 3)

    def test_with_one_thing_otherwise(self):
        fillers = ["b", "ab", "ba", "bb", "bab", "c", "A", ("a",), ("b",), ("a", "b"), ((), "b", ""), ((),), ("bb",)]
        told = []
        for language, width, top in ((having("ab", "bb"), 2, 1), (TWO_B, 1, 2), (finite("ab"), 1, 1),
                                     (having("ab", "b") & having("ab", "a"), 1, 1), (having("a", "aa", 2), 2, 2),
                                     (having("ab", "ab") | having("ab", "bb"), 2, 1)):
            for thing in otherwise(fewest_watched(language, width, top), fillers):
                before = repr(thing)
                told.append(watching_holds(language, width, top, thing))
                self.assertIs(told[-1], plain_paper(language, width, top, thing), thing)
                self.assertEqual(repr(thing), before)
        self.assertTrue(0 < sum(told) < len(told))

    def test_wrong_papers(self):
        no_b_b = having("ab", "bb")
        shown = (((), "bb", "bab"),)
        self.assertIs(watching_holds(no_b_b, 2, 1, (("bb",), shown)), True)
        self.assertIs(watching_holds(thing=(("bb",), shown), top=1, width=2, language=no_b_b), True)
        two = ("ab", "bb")
        wrong = [
            (("bb",), ()), (("bb",), shown * 2), (("bb",), (((), "bab", "bb"),)), (("bb",), (((), "b", "bab"),)),
            (("bb",), ((("bb",), "bb", "bab"),)), (("bb",), (((), "bb", "bab", ""),)), (("bb",), (((), "bb"),)),
            (("bb",), ([(), "bb", "bab"],)), (("bb",), [((), "bb", "bab")]), (["bb"], shown), [("bb",), shown],
            (("ba",), shown), ((), ()), ((), shown), (two, shown),
            (two, tuple(((word,), "bb", "bab") for word in words("ab", 2))),
            (("bb", "bb"), shown), (("bb",), (((), "bb", "ba"),)), (("bb",), (((), "abb", "bab"),)),
            (("bb",), (((), "bb", None),)), (("bb",), (((), "bb", True),)), (("bb",), (((), "bbc", "bab"),)),
            (("bb",), (((), "bb", "bcb"),)), (("bb",), (((), "bb", ["bab"]),)), (("b",), shown), (("bbb",), shown),
            (("bb",),), (("bb",), shown, ()), (("bb",), (None,)), (("bb",), None), (None, shown), (("BB",), shown),
        ]
        for thing in wrong:
            self.assertIs(watching_holds(no_b_b, 2, 1, thing), False, thing)
            self.assertFalse(plain_paper(no_b_b, 2, 1, thing))

    def test_not_judged_at_all(self):
        for language in (EVEN, AHEAD, lengths("ab", 3, (1,))):
            every = tuple(words(language.letters, 1))
            for pieces in ((), ("b",), every):
                smaller = tuples(language.letters, 1, len(pieces) - 1) if pieces else []
                for pair in (("", "b"), ("bb", "b"), ("acb", "bac")):
                    thing = pieces, tuple((others, *pair) for others in smaller)
                    self.assertIs(watching_holds(language, 1, 1, thing), False)

    def test_values_of_every_other_kind(self):
        for language, width, top in ((having("ab", "bb"), 2, 1), (finite("ab"), 1, 1), (having("a", "aa"), 2, 3)):
            pieces, shown = fewest_watched(language, width, top)
            for thing in [*odd_values(), *ODD_STRINGS]:
                self.assertIs(watching_holds(language, width, top, thing), False)
                for more in ((thing, shown), (pieces, thing), (thing, thing), (pieces, (thing,)), ((thing,), shown)):
                    if more != (pieces, shown):
                        self.assertIs(watching_holds(language, width, top, more), False)

    def test_long_texts(self):
        no_b_b = having("ab", "bb")
        one, other = "ba" * 600 + "bb" + "ab" * 398, "ba" * 999 + "ab"
        self.assertIs(watching_holds(no_b_b, 2, 1, (("bb",), (((), one, other),))), True)
        self.assertIs(watching_holds(no_b_b, 2, 1, (("bb",), (((), other, one),))), False)
        self.assertIs(watching_holds(no_b_b, 2, 1, (("bb",), (((), one, other + "a"),))), False)


if __name__ == "__main__":
    unittest.main()
