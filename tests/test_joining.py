"""view_behind, joined and repeated: the view of a joined text is told by the views of its parts."""

import random
import unittest

from judged import plain_view
from piecesseen.views import joined, repeated, view_behind, view_of
from plain import texts

SIZES = [(width, top) for width in range(1, 9) for top in (1, 2, 3, 20)]


def samples(letters, many, longest, seed):
    chance = random.Random(seed)
    return ["".join(chance.choice(letters) for _ in range(chance.randint(0, longest))) for _ in range(many)]


def in_brackets(width, top, found):
    """The joined view of several views, joined in any brackets."""
    if len(found) == 1:
        return [found[0]]
    return [joined(width, top, one, other) for cut in range(1, len(found))
            for one in in_brackets(width, top, found[:cut]) for other in in_brackets(width, top, found[cut:])]


class BehindTest(unittest.TestCase):
    def test_each_beginning_of_a_text(self):
        for letters, seed in (("a", 61), ("ab", 62), ("abc", 63), ("wxyz", 64)):
            for text in samples(letters, 12, 24, seed) + [letters[-1] * 30]:
                for width, top in SIZES[:16] + [(8, 1)]:
                    view = ("short", "")
                    for at, letter in enumerate(text, start=1):
                        view = view_behind(width, top, view, letter)
                        if width < 5 or len(letters) < 3:
                            self.assertEqual(view, plain_view(letters, width, top, text[:at]))
                        self.assertEqual(view, view_of(width, top, text[:at]))

    def test_from_short_to_long(self):
        for width in range(1, 9):
            text = "abbabaab"[:width]
            self.assertEqual(view_behind(width, 3, ("short", text[:-1]), text[-1]),
                             ("long", text[:-1], text[1:], ((text, 1),)))
        self.assertEqual(view_behind(3, 3, ("short", "a"), "b"), ("short", "ab"))

    def test_by_name(self):
        self.assertEqual(view_behind(letter="b", view=("short", "a"), top=1, width=2), ("long", "a", "b", (("ab", 1),)))


class JoinedTest(unittest.TestCase):
    def assert_cuts(self, letters, width, top, text):
        """A text cut in two at each place has the view that the views of its parts tell."""
        whole = plain_view(letters, width, top, text) if width < 5 else view_of(width, top, text)
        for cut in range(len(text) + 1):
            one, other = view_of(width, top, text[:cut]), view_of(width, top, text[cut:])
            self.assertEqual(joined(width, top, one, other), whole)

    def test_each_cut(self):
        for letters, longest in (("a", 9), ("ab", 6), ("bcd", 4)):
            for text in texts(letters, longest):
                for width, top in SIZES[:16]:
                    self.assert_cuts(letters, width, top, text)
        for letters, seed in (("ab", 65), ("wxyz", 66)):
            for text in samples(letters, 20, 40, seed):
                for width, top in SIZES:
                    self.assert_cuts(letters, width, top, text)

    def test_short_and_long_parts(self):
        self.assertEqual(joined(4, 2, ("short", "a"), ("short", "b")), ("short", "ab"))
        self.assertEqual(joined(3, 2, ("short", "ab"), ("short", "a")), ("long", "ab", "ba", (("aba", 1),)))
        self.assertEqual(joined(3, 2, ("short", "ab"), ("short", "ab")),
                         ("long", "ab", "ab", (("aba", 1), ("bab", 1))))
        self.assertEqual(joined(2, 2, ("short", ""), ("short", "")), ("short", ""))
        aab = ("long", "aa", "ab", (("aab", 1),))
        self.assertEqual(joined(3, 2, ("short", "b"), aab), ("long", "ba", "ab", (("aab", 1), ("baa", 1))))
        self.assertEqual(joined(3, 2, aab, ("short", "b")), ("long", "aa", "bb", (("aab", 1), ("abb", 1))))
        self.assertEqual(joined(3, 1, aab, aab), ("long", "aa", "ab", (("aab", 1), ("aba", 1), ("baa", 1))))
        self.assertEqual(joined(1, 3, view_of(1, 3, "aab"), view_of(1, 3, "ab")), ("long", "", "", (("a", 3), ("b", 2))))

    def test_the_empty_text(self):
        for width, top in SIZES:
            for text in ("", "a", "abba", "babab" * 5):
                view = view_of(width, top, text)
                self.assertEqual(joined(width, top, ("short", ""), view), view)
                self.assertEqual(joined(width, top, view, ("short", "")), view)

    def test_in_any_brackets(self):
        chance = random.Random(67)
        for letters in ("ab", "abcd"):
            for width, top in SIZES:
                held = ["".join(chance.choice(letters) for _ in range(chance.randint(0, 5))) for _ in range(5)]
                found = in_brackets(width, top, [view_of(width, top, text) for text in held])
                self.assertEqual(len(found), 14)
                self.assertEqual(found, [view_of(width, top, "".join(held))] * 14)

    def test_long_texts(self):
        for text, other in zip(samples("abcd", 8, 2000, 68), samples("abcd", 8, 2000, 69)):
            for width, top in ((1, 20), (4, 1), (4, 20)):
                self.assertEqual(joined(width, top, view_of(width, top, text), view_of(width, top, other)),
                                 view_of(width, top, text + other))

    def test_by_name(self):
        self.assertEqual(joined(other=("short", "b"), view=("short", "a"), top=2, width=3), ("short", "ab"))

    def test_what_is_passed_stays(self):
        one, other = view_of(2, 3, "abba"), view_of(2, 3, "bab")
        before = repr((one, other))
        for _ in range(2):
            self.assertEqual(joined(2, 3, one, other), view_of(2, 3, "abbabab"))
            self.assertEqual(view_behind(2, 3, one, "b"), view_of(2, 3, "abbab"))
            self.assertEqual(repeated(2, 3, other, 3), view_of(2, 3, "babbabbab"))
            self.assertEqual(repr((one, other)), before)


class RepeatedTest(unittest.TestCase):
    def test_up_to_where_all_numbers_are_cut_off(self):
        for text in ("", "a", "b", "ab", "aab", "abcab", "abcdabcda"):
            for width, top in SIZES:
                view = view_of(width, top, text)
                for many in range(top + width + 3):
                    self.assertEqual(repeated(width, top, view, many), view_of(width, top, text * many))

    def test_none_and_one(self):
        for width, top in SIZES:
            view = view_of(width, top, "abba")
            self.assertEqual(repeated(width, top, view, 0), ("short", ""))
            self.assertEqual(repeated(width, top, view, 1), view)

    def test_very_often(self):
        for text in ("", "a", "ab", "aab", "abcdabcd", "ab" * 1000):
            for width, top in SIZES:
                view = view_of(width, top, text)
                wanted = view_of(width, top, text * (top + width))
                for many in (10 ** 30, 10 ** 30 - 1, 2 ** 99, 2 ** 99 - 1, 10 ** 6):
                    self.assertEqual(repeated(width, top, view, many), wanted)

    def test_sums_and_products(self):
        for text in ("a", "ab", "aabab"):
            for width, top in SIZES:
                view = view_of(width, top, text)
                for one in range(6):
                    for other in range(6):
                        self.assertEqual(repeated(width, top, view, one + other), joined(
                            width, top, repeated(width, top, view, one), repeated(width, top, view, other)))
                        self.assertEqual(repeated(width, top, view, one * other),
                                         repeated(width, top, repeated(width, top, view, one), other))

    def test_by_name(self):
        self.assertEqual(repeated(many=3, view=("short", "a"), top=2, width=4), ("short", "aaa"))


if __name__ == "__main__":
    unittest.main()
