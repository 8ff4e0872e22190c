"""Judge and Stream, beside plain texts."""

import random
import unittest

from asked import AHEAD, EVEN, SOME_B, TWO_B, found_languages
from judged import otherwise, plain_view
from papers_plain import same
from piecesseen.counting import is_counting, table_of
from piecesseen.errors import BadText, BadView, NothingToUndo, Unjudged
from piecesseen.judges import Judge, Stream
from piecesseen.makers import beginning, ending, finite, having
from piecesseen.views import views
from plain import ODD_STRINGS, PlainCase, odd_values, texts

SIZES = {"a": [(1, 1), (3, 2), (8, 20)], "ab": [(1, 1), (1, 3), (2, 1), (2, 2), (3, 1)], "abc": [(1, 1)],
         "bcd": [(1, 1), (1, 2), (2, 1)], "wxyz": [(1, 1)]}
LONGEST = {"a": 40, "ab": 6, "abc": 5, "bcd": 4, "wxyz": 3}
EARLY = having("ab", "ab", 2) & beginning("ab", "a")


def judged():
    """(language, k, t) for languages that are judged by counts with these numbers, some of them with t left out."""
    return [(language, width, top) for language in found_languages(231, 8) for width, top in SIZES[language.letters]
            if is_counting(language, width, top)]


def samples(letters, seed, many=20, longest=40):
    """Texts of any lengths."""
    chance = random.Random(seed)
    return ["".join(chance.choice(letters) for _ in range(chance.randint(0, longest))) for _ in range(many)]


class JudgeTest(PlainCase):
    def test_answers_for_texts(self):
        for language, width, top in judged()[::2]:
            judge = Judge(language, width, top)
            for text in [*texts(language.letters, LONGEST[language.letters]), *samples(language.letters, 241)]:
                self.assertIs(judge(text), text in language)
                self.assertIs(judge(text=text), text in language)

    def test_answers_for_views(self):
        for language, width, top in judged():
            judge = Judge(language, width, top)
            for view, state in table_of(language, width, top):
                self.assertIs(judge.at(view), state in language.ends)
                self.assertIs(judge.at(view=view), state in language.ends)
            for text in samples(language.letters, 242):
                self.assertIs(judge.at(plain_view(language.letters, width, top, text)), text in language)

    def test_not_judged_with_these_numbers(self):
        told = 0
        for language in [*found_languages(231, 8), EVEN, AHEAD]:
            for width, top in SIZES[language.letters]:
                if not is_counting(language, width, top):
                    told += 1
                    with self.assertRaises(Unjudged) as caught:
                        table_of(language, width, top)
                    pair = caught.exception.pair
                    self.assert_error(Unjudged, "pair", pair, Judge, language, width, top)
                    self.assert_error(Unjudged, "pair", pair, Judge, top=top, width=width, language=language)
                    self.assertEqual(*[plain_view(language.letters, width, top, text) for text in pair])
                    self.assertEqual([text in language for text in pair], [True, False])
        self.assertGreater(told, 50)

    def test_attributes(self):
        for language, width, top in judged()[::5]:
            judge = Judge(language, width, top)
            self.assertIs(judge.language, language)
            self.assertEqual((judge.width, judge.top), (width, top))
        judge = Judge(SOME_B, 2)
        self.assertEqual((judge.language, judge.width, judge.top), (SOME_B, 2, 1))
        judge = Judge(width=1, top=3, language=TWO_B)
        self.assertEqual((judge.language, judge.width, judge.top), (TWO_B, 1, 3))
        self.assert_error(Unjudged, "pair", ("bb", "b"), Judge, width=1, language=TWO_B)

    def test_what_is_no_text(self):
        for language, width, top in ((SOME_B, 1, 1), (EARLY, 2, 2), (finite("a", "aa"), 3, 2), (~finite("wxyz"), 1, 1)):
            judge = Judge(language, width, top)
            for value in [*odd_values(), *ODD_STRINGS, "c", "abc", "ab\n", ["a"], ("a",), "aA", "a" * 1999 + "c"]:
                self.assert_error(BadText, "value", value, judge, value)
                self.assert_error(BadText, "value", value, judge, text=value)

    def test_what_is_no_view(self):
        for language, width, top in ((SOME_B, 1, 1), (EARLY, 2, 2), (finite("a", "aa"), 3, 2)):
            judge = Judge(language, width, top)
            letters = language.letters
            known = {repr(view) for view in views(letters, width, top)}
            wrong = [*odd_values(), *ODD_STRINGS]
            for other in ((width + 1, top), (width, top + 1), (width + 2, 1)):
                wrong += [view for view in views(letters, *other) if repr(view) not in known]
            wrong += [view for view in views("bc", width, top) if repr(view) not in known]
            for view in views(letters, width, top):
                wrong += [thing for thing in otherwise(view, [top, top + 1, "short", "long", letters[0] * width])
                          if repr(thing) not in known]
            for value in wrong:
                self.assert_error(BadView, "value", value, judge.at, value)
            self.assert_error(BadView, "value", None, judge.at, view=None)
        judge = Judge(SOME_B, 1)
        for value in (("long", "", "", (("a", True),)), ("long", "", "", [("a", 1)]), ("long", "", "", ()),
                      ("short", "a"),
                      ("short", ""[:0], ""), ["short", ""], ("short", None), ("long", "", "", (("c", 1),))):
            self.assert_error(BadView, "value", value, judge.at, value)

    def test_the_greatest_sizes(self):
        for letters, width, top in (("abc", 1, 16), ("abcd", 1, 7), ("ab", 3, 2), ("ab", 2, 9), ("a", 8, 20)):
            language = having(letters, letters[0]) | ending(letters, letters[-1] * (width - 1))
            judge = Judge(language, width, top)
            for text in samples(letters, 243, 5, 2000) + [letters[-1] * 2000, (letters * 2000)[:2000]]:
                self.assertIs(judge(text), text in language)
                self.assertIs(judge.at(plain_view(letters, width, top, text)), text in language)


class StreamTest(PlainCase):
    def assert_stream(self, stream, judge, text):
        """The stream has seen this text."""
        language = judge.language
        view = plain_view(language.letters, judge.width, judge.top, text)
        self.assertTrue(same(stream.view, view))
        self.assertIs(stream.answer, text in language)
        self.assertTrue(same(stream.length, len(text)))

    def test_letters_seen_and_taken_back(self):
        chance = random.Random(244)
        for language, width, top in judged()[::3]:
            judge = Judge(language, width, top)
            stream, text = Stream(judge), ""
            self.assert_stream(stream, judge, text)
            for _ in range(40):
                if chance.random() < 0.65:
                    letter = chance.choice(language.letters)
                    self.assertIsNone(stream.saw(letter))
                    text += letter
                elif text:
                    self.assertEqual(stream.back(), text[-1])
                    text = text[:-1]
                else:
                    self.assert_error(NothingToUndo, None, None, stream.back)
                self.assert_stream(stream, judge, text)
            while text:
                self.assertEqual(stream.back(), text[-1])
                text = text[:-1]
                self.assert_stream(stream, judge, text)
            self.assert_error(NothingToUndo, None, None, stream.back)
            self.assert_stream(stream, judge, "")

    def test_by_name(self):
        stream = Stream(judge=Judge(SOME_B, 1))
        stream.saw(letter="a")
        stream.saw(letter="b")
        self.assertEqual((stream.view, stream.answer, stream.length), (("long", "", "", (("a", 1), ("b", 1))), True, 2))
        self.assertEqual(stream.followed(other=stream).length, 4)

    def test_what_is_no_letter(self):
        judge = Judge(EARLY, 2, 2)
        stream = Stream(judge)
        for text in ("", "abba"):
            for letter in text:
                stream.saw(letter)
            for value in [*odd_values(), *ODD_STRINGS, "", "ab", "aa", "c", "A", ["a"], ("a",), "\n", " "]:
                self.assert_error(BadText, "value", value, stream.saw, value)
                self.assert_error(BadText, "value", value, stream.saw, letter=value)
                self.assert_stream(stream, judge, text)
        self.assertEqual("".join(stream.back() for _ in range(4)), "abba")

    def test_two_streams_do_not_share_anything(self):
        judge = Judge(TWO_B, 1, 2)
        one, other = Stream(judge), Stream(judge)
        for letter in "bab":
            one.saw(letter)
            self.assert_stream(other, judge, "")
        other.saw("a")
        self.assert_stream(one, judge, "bab")
        self.assertEqual(one.back(), "b")
        self.assert_stream(other, judge, "a")
        self.assert_error(BadText, "value", "c", one.saw, "c")
        self.assertEqual(other.back(), "a")
        self.assert_error(NothingToUndo, None, None, other.back)
        self.assert_stream(one, judge, "ba")

    def test_followed(self):
        for language, width, top in judged()[::6]:
            judge, twin = Judge(language, width, top), Judge(~~language, width, top)
            found = samples(language.letters, 245, 6, 12) + [""]
            for text, further in zip(found, found[1:] + found[:1]):
                one, other = Stream(judge), Stream(twin)
                for letter in text:
                    one.saw(letter)
                for letter in further:
                    other.saw(letter)
                both = one.followed(other)
                self.assertIs(both.__class__, Stream)
                self.assert_stream(both, judge, text + further)
                self.assert_stream(one, judge, text)
                self.assert_stream(other, judge, further)
                # The new one goes on, and takes back all of its letters; so do both others.
                both.saw(language.letters[0])
                one.saw(language.letters[-1])
                self.assert_stream(both, judge, text + further + language.letters[0])
                self.assert_stream(one, judge, text + language.letters[-1])
                self.assert_stream(other, judge, further)
                for stream, seen in ((both, text + further + language.letters[0]), (other, further),
                                     (one, text + language.letters[-1])):
                    self.assertEqual("".join(stream.back() for _ in seen), seen[::-1])
                    self.assert_error(NothingToUndo, None, None, stream.back)
                    self.assert_stream(stream, judge, "")

    def test_followed_by_itself(self):
        judge = Judge(EARLY, 2, 2)
        stream = Stream(judge)
        for letter in "aba":
            stream.saw(letter)
        both = stream.followed(stream)
        self.assert_stream(both, judge, "abaaba")
        self.assert_stream(stream, judge, "aba")
        many = both.followed(both).followed(stream)
        self.assert_stream(many, judge, "aba" * 5)
        stream.back()
        self.assert_stream(both, judge, "abaaba")
        self.assertEqual("".join(many.back() for _ in range(15)), "aba" * 5)
        self.assert_stream(Stream(judge).followed(Stream(judge)), judge, "")

    def test_two_thousand_letters(self):
        for letters, width, top in (("ab", 3, 2), ("abc", 1, 16), ("abcd", 1, 7), ("a", 8, 20), ("abc", 2, 1)):
            language = having(letters, letters[0]) | ending(letters, letters[-1] * (width - 1))
            judge = Judge(language, width, top)
            text = "".join(random.Random(247).choices(letters, k=2000))
            stream = Stream(judge)
            for at, letter in enumerate(text, start=1):
                stream.saw(letter)
                if at % 50 == 0:
                    self.assert_stream(stream, judge, text[:at])
            self.assert_stream(stream, judge, text)
            twice = stream.followed(stream)
            self.assert_stream(twice, judge, text * 2)
            self.assertEqual("".join(stream.back() for _ in text), text[::-1])
            self.assert_stream(stream, judge, "")
            self.assertEqual("".join(twice.back() for _ in text * 2), text[::-1] * 2)

    def test_nothing_is_assigned_to_properties(self):
        stream = Stream(Judge(SOME_B, 1))
        for name in ("view", "answer", "length"):
            self.assertIsInstance(getattr(Stream, name), property)
            with self.assertRaises(AttributeError):
                setattr(stream, name, 1)


if __name__ == "__main__":
    unittest.main()
