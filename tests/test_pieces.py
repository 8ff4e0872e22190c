"""pieces_of and view_of, beside a search for each word of k letters."""

import random
import unittest

from judged import places, plain_view, words
from piecesseen.views import pieces_of, view_of
from plain import texts


def plain_pieces(letters, width, text):
    return tuple((word, places(word, text)) for word in words(letters, width) if word in text)


class PiecesTest(unittest.TestCase):
    def test_all_short_texts(self):
        for letters, longest in (("a", 12), ("ab", 7), ("bcd", 5), ("abyz", 4)):
            for text in texts(letters, longest):
                for width in range(1, 7 if len(letters) < 3 else 4):
                    self.assertEqual(pieces_of(width, text), plain_pieces(letters, width, text))

    def test_overlapping_pieces(self):
        self.assertEqual(pieces_of(2, "aaaa"), (("aa", 3),))
        self.assertEqual(pieces_of(3, "ababab"), (("aba", 2), ("bab", 2)))
        self.assertEqual(pieces_of(1, "cabba"), (("a", 2), ("b", 2), ("c", 1)))

    def test_few_letters(self):
        for width in range(1, 9):
            self.assertEqual(pieces_of(width, ""), ())
            self.assertEqual(pieces_of(width, "abcdabcd"[:width - 1]), ())
            self.assertEqual(pieces_of(width, "abcdabcd"[:width]), (("abcdabcd"[:width], 1),))

    def test_numbers_are_not_cut_off(self):
        self.assertEqual(pieces_of(1, "a" * 2000), (("a", 2000),))
        self.assertEqual(pieces_of(8, "a" * 2000), (("a" * 8, 1993),))

    def test_by_name(self):
        self.assertEqual(pieces_of(text="abab", width=2), (("ab", 2), ("ba", 1)))


class ViewOfTest(unittest.TestCase):
    def test_all_short_texts(self):
        for letters, longest in (("a", 12), ("ab", 7), ("bcd", 5), ("abyz", 4)):
            for text in texts(letters, longest):
                for width in range(1, 7 if len(letters) < 3 else 4):
                    for top in (1, 2, 3, 20):
                        self.assertEqual(view_of(width, top, text), plain_view(letters, width, top, text))

    def test_numbers_at_the_top(self):
        for number in range(1, 25):
            for top in range(1, 21):
                self.assertEqual(view_of(1, top, "a" * number), ("long", "", "", (("a", min(number, top)),)))
                wanted = ("long", "a", "a", (("aa", min(number, top)),))
                self.assertEqual(view_of(2, top, "a" * (number + 1)), wanted)

    def test_few_letters(self):
        for top in (1, 20):
            self.assertEqual(view_of(1, top, ""), ("short", ""))
            self.assertEqual(view_of(1, top, "a"), ("long", "", "", (("a", 1),)))
            for width in range(2, 9):
                text = "abcdabcd"[:width]
                self.assertEqual(view_of(width, top, ""), ("short", ""))
                self.assertEqual(view_of(width, top, text[:-1]), ("short", text[:-1]))
                self.assertEqual(view_of(width, top, text), ("long", text[:-1], text[1:], ((text, 1),)))

    def test_long_texts(self):
        chance = random.Random(51)
        for letters, widths in (("a", (1, 8)), ("ab", (1, 2, 8)), ("abc", (1, 4)), ("wxyz", (1, 2, 4))):
            text = "".join(chance.choice(letters) for _ in range(2000))
            for width in widths:
                for top in (1, 7, 20):
                    self.assertEqual(view_of(width, top, text), plain_view(letters, width, top, text))
                self.assertEqual(pieces_of(width, text), plain_pieces(letters, width, text))

    def test_kinds_of_values(self):
        view = view_of(2, 2, "abab")
        self.assertEqual([part.__class__ for part in (view, *view)], [tuple, str, str, str, tuple])
        self.assertEqual([part.__class__ for pair in view[3] for part in (pair, *pair)], [tuple, str, int] * 2)

    def test_by_name(self):
        self.assertEqual(view_of(text="abab", top=1, width=2), ("long", "a", "b", (("ab", 1), ("ba", 1))))


if __name__ == "__main__":
    unittest.main()
