"""Kept, beside a plain text."""

import random
import unittest

from judged import plain_view
from papers_plain import same
from piecesseen.errors import BadPlace, BadText, NothingToUndo, PieceError
from piecesseen.kept import Kept
from plain import ODD_STRINGS, PlainCase, odd_values

SIZES = [("a", 3, 2), ("ab", 1, 3), ("ab", 2, 1), ("ab", 8, 20), ("bcd", 2, 2), ("abcd", 4, 20), ("wxyz", 1, 1)]
NO_TEXTS = ["c", "abc", "A", "ab ", ["a"], ("a",), None, 1, True, "a\n"]


class KeptTest(PlainCase):
    def assert_kept(self, kept, letters, width, top, text):
        """The kept text is this text."""
        self.assertTrue(same(kept.text, text))
        self.assertTrue(same(kept.view, plain_view(letters, width, top, text)))
        self.assertEqual(len(kept), len(text))
        for at in {0, len(text) // 2, len(text) - 1, len(text)} | set(range(min(len(text), 6))):
            if 0 <= at < len(text):
                self.assertEqual(kept[at], text[at])
            else:
                self.assert_error(BadPlace, "place", at, kept.__getitem__, at)

    def deed(self, chance, kept, letters, text):
        """Does a deed, and tells the plain text behind it."""
        start = chance.randint(0, len(text))
        if chance.random() < 0.6:
            put = "".join(chance.choice(letters) for _ in range(chance.choice((0, 1, 1, 2, 7))))
            self.assertIsNone(kept.put(start, put))
            return text[:start] + put + text[start:]
        stop = chance.randint(start, min(len(text), start + 4))
        self.assertEqual(kept.cut(start, stop), text[start:stop])
        return text[:start] + text[stop:]

    def test_deeds_beside_a_plain_text(self):
        chance = random.Random(251)
        for letters, width, top in SIZES:
            start = "".join(chance.choice(letters) for _ in range(chance.randint(0, 12)))
            kept, held = Kept(letters, width, top, start), [start]
            self.assert_kept(kept, letters, width, top, start)
            for _ in range(60):
                if chance.random() < 0.3 and len(held) > 1:
                    self.assertIsNone(kept.undo())
                    held.pop()
                else:
                    held.append(self.deed(chance, kept, letters, held[-1]))
                self.assert_kept(kept, letters, width, top, held[-1])
            while len(held) > 1:
                kept.undo()
                held.pop()
                self.assert_kept(kept, letters, width, top, held[-1])
            self.assert_error(NothingToUndo, None, None, kept.undo)
            self.assert_kept(kept, letters, width, top, start)

    def test_what_is_left_out(self):
        kept = Kept("ab", 2)
        self.assertEqual((kept.text, len(kept), kept.view), ("", 0, ("short", "")))
        kept.put(0, "aabb")
        self.assertEqual(kept.view, ("long", "a", "b", (("aa", 1), ("ab", 1), ("bb", 1))))
        self.assertEqual(Kept("ab", 1, text="aab").view, ("long", "", "", (("a", 1), ("b", 1))))
        self.assertEqual(Kept(text="aab", top=2, width=1, letters="ab").view, ("long", "", "", (("a", 2), ("b", 1))))
        self.assertEqual(Kept("ab", 1, 3, "aab").text, "aab")

    def test_by_name(self):
        kept = Kept("ab", 2, 2, "ab")
        self.assertIsNone(kept.put(place=1, text="ba"))
        self.assertEqual(kept.text, "abab")
        self.assertEqual(kept.cut(start=1, stop=3), "ba")
        self.assertEqual(kept.text, "ab")
        self.assert_error(BadPlace, "place", 3, kept.put, place=3, text="c")
        self.assert_error(BadPlace, "place", 0, kept.cut, stop=0, start=1)

    def test_texts_that_are_none(self):
        for value in [*odd_values(), *ODD_STRINGS, *NO_TEXTS]:
            self.assert_error(BadText, "value", value, Kept, "ab", 2, 1, value)
            self.assert_error(BadText, "value", value, Kept, "ab", 2, text=value)

    def test_indices_that_are_none(self):
        kept = Kept("ab", 2, 1, "abba")
        self.assertEqual("".join(kept[at] for at in range(4)), "abba")
        for value in [*odd_values(), *ODD_STRINGS, 4, 5, -1, -4, True, False, slice(0, 2), slice(None), 10 ** 39]:
            if not (value.__class__ is int and 0 <= value < 4):
                self.assert_error(BadPlace, "place", value, kept.__getitem__, value)
        with self.assertRaises(BadPlace) as caught:
            print(kept[-1])
        self.assertEqual(caught.exception.place, -1)
        with self.assertRaises(BadPlace):
            print(Kept("ab", 2)[0])

    def test_places_that_are_none(self):
        kept = Kept("ab", 2, 1, "abba")
        kept.put(4, "b")
        for value in [*odd_values(), *ODD_STRINGS, 6, -1, True, False, 10 ** 39]:
            if not (value.__class__ is int and 0 <= value <= 5):
                self.assert_error(BadPlace, "place", value, kept.put, value, "a")
                self.assert_error(BadPlace, "place", value, kept.put, value, "c")
                self.assert_error(BadPlace, "place", value, kept.put, value, None)
                for stop in (0, 5, 6, -1, None, True, "a"):
                    self.assert_error(BadPlace, "place", value, kept.cut, value, stop)
                self.assert_error(BadPlace, "place", value, kept.cut, 2, value)
                self.assert_error(BadPlace, "place", value, kept.cut, 0, value)
        for start in range(6):
            for stop in range(start):
                self.assert_error(BadPlace, "place", stop, kept.cut, start, stop)
        for place in range(6):
            for value in [*NO_TEXTS, "ab" * 999 + "c"]:
                self.assert_error(BadText, "value", value, kept.put, place, value)
        self.assertEqual(kept.text, "abbab")
        # Refused deeds are none that could be taken back.
        kept.undo()
        self.assertEqual(kept.text, "abba")
        self.assert_error(NothingToUndo, None, None, kept.undo)

    def test_deeds_that_change_nothing(self):
        kept = Kept("ab", 1, 2, "ab")
        kept.put(1, "")
        self.assertEqual(kept.cut(2, 2), "")
        kept.put(0, "b")
        self.assertEqual(kept.cut(0, 0), "")
        for text in ("bab", "ab", "ab", "ab"):
            kept.undo()
            self.assertEqual(kept.text, text)
        self.assert_error(NothingToUndo, None, None, kept.undo)
        self.assertEqual(kept.text, "ab")

    def test_deeds_behind_an_undo(self):
        kept = Kept("ab", 1, 2, "a")
        kept.put(1, "b")
        kept.undo()
        kept.put(0, "bb")
        kept.undo()
        self.assertEqual(kept.text, "a")
        self.assert_error(NothingToUndo, None, None, kept.undo)

    def test_kept_texts_do_not_share_anything(self):
        one, other = Kept("ab", 2, 1, "ab"), Kept("ab", 2, 1, "ab")
        one.put(0, "bb")
        self.assertEqual((one.text, other.text), ("bbab", "ab"))
        self.assert_error(NothingToUndo, None, None, other.undo)
        other.cut(0, 2)
        one.undo()
        self.assertEqual((one.text, other.text), ("ab", ""))
        other.undo()
        self.assertEqual((one.text, other.text), ("ab", "ab"))

    def test_the_whole_text_cut_and_put_back(self):
        kept = Kept("ab", 2, 1, "abab")
        self.assertEqual(kept.cut(0, 4), "abab")
        self.assertEqual((kept.text, len(kept), kept.view), ("", 0, ("short", "")))
        kept.put(0, "abab")
        self.assertEqual(kept.text, "abab")
        kept.undo()
        self.assertEqual(kept.text, "")

    def test_more_than_a_thousand_deeds(self):
        chance = random.Random(252)
        for letters, width, top in (("ab", 8, 20), ("abcd", 4, 3)):
            start = "".join(chance.choice(letters) for _ in range(2000))
            kept, held = Kept(letters, width, top, start), [start]
            for _ in range(1500):
                held.append(self.deed(chance, kept, letters, held[-1]))
            self.assert_kept(kept, letters, width, top, held[-1])
            while len(held) > 1:
                kept.undo()
                held.pop()
                if len(held) % 100 == 0:
                    self.assert_kept(kept, letters, width, top, held[-1])
            self.assert_error(NothingToUndo, None, None, kept.undo)
            self.assert_kept(kept, letters, width, top, start)

    def test_nothing_is_assigned_to_properties(self):
        kept = Kept("ab", 1)
        for name in ("text", "view"):
            self.assertIsInstance(getattr(Kept, name), property)
            with self.assertRaises(AttributeError):
                setattr(kept, name, "a")

    def test_not_iterated_over(self):
        with self.assertRaises(TypeError):
            list(Kept("ab", 1, 1, "ab"))
        self.assertFalse(issubclass(BadPlace, (IndexError, LookupError)) or not issubclass(BadPlace, PieceError))


if __name__ == "__main__":
    unittest.main()
