"""The greatest calls within the limits come to their answers, and the answers are right."""

import random
import unittest

from piecesseen.errors import BadLanguage
from piecesseen.languages import Language, is_text
from piecesseen.makers import beginning, finite, having, lengths
from plain import PlainCase, run


def samples(letters, many, longest, seed):
    """Texts of many lengths."""
    chance = random.Random(seed)
    return ["".join(chance.choice(letters) for _ in range(chance.randint(0, longest))) for _ in range(many)]


def counting(letters, letter, period):
    """The texts in which the number of a letter can be divided by the period."""
    rows = tuple(tuple((state + (sign == letter)) % period for sign in letters) for state in range(period))
    return Language(letters, rows, (0,))


def climbing(size):
    """A language whose states are ordered: from each one more texts lead to the end than from the one before."""
    return Language("abc", tuple((min(state + 1, size - 1), max(state - 1, 0), max(state // 2, 1) if state else 0)
                                 for state in range(size)), (size - 1,))


def is_joined(one, other, text):
    return any(text[:place] in one and text[place:] in other for place in range(len(text) + 1))


def is_starred(language, text):
    """Whether a text consists of texts of a language, place by place."""
    good = [True]
    for stop in range(1, len(text) + 1):
        good.append(any(good[start] and text[start:stop] in language for start in range(stop)))
    return good[-1]


class SizesTest(PlainCase):
    def test_machines_with_many_states(self):
        chance = random.Random(41)
        for letters in ("a", "ab", "abcd"):
            for size in (60, 300):
                rows = tuple(tuple(chance.randrange(size) for _ in letters) for _ in range(size))
                ends = tuple(sorted(chance.sample(range(size), size // 2)))
                language = Language(letters, rows, ends)
                for text in samples(letters, 300, 50, 42) + [letters * (2000 // len(letters))]:
                    self.assertIs(text in language, run(letters, rows, 0, text) in ends)

    def test_one_wrong_part_among_many(self):
        rows = tuple(((state + 1) % 300, 7 * state % 300) for state in range(300))
        for wrong in (rows[:-1] + ((0, 300),), rows[:-1] + ((True, 0),), rows[:-1] + ([0, 0],), rows[:-1] + ((0,),)):
            self.assert_error(BadLanguage, "part", "rows", Language, "ab", wrong, (300,))
        for wrong in ((*range(300), 300), (*range(299), True), (*range(299), 298)):
            self.assert_error(BadLanguage, "part", "ends", Language, "ab", rows, wrong)

    def test_the_greatest_results_of_operators(self):
        one, other = counting("abcd", "a", 20), counting("abcd", "b", 15)
        both, either, less = one & other, one | other, one - other
        self.assertEqual([len(made) for made in (both, either, less)], [300, 300, 300])
        for text in samples("abcd", 500, 100, 43) + ["a" * 20, "ab" * 60, "b" * 15, "cd" * 1000]:
            mine, others = text.count("a") % 20 == 0, text.count("b") % 15 == 0
            self.assertEqual((text in both, text in either, text in less),
                             (mine and others, mine or others, mine and not others))
        self.assertTrue(both <= one and one <= either and less <= one and both <= either)
        self.assertFalse(either <= both or one <= less or one <= other)
        self.assertEqual(Language.read(str(both)), both)
        self.assertEqual(both | less, one)

    def test_forty_states(self):
        one, other = counting("ab", "a", 40), ~counting("ab", "b", 40)
        self.assertEqual((len(one), len(other)), (40, 40))
        self.assertEqual(len(one & lengths("ab", 5, (0,))), 200)
        self.assertIs(one <= other, False)
        self.assertEqual(next((one - other).behind("a" * 6 + "b" * 6).in_order()), "a" * 34 + "b" * 34)
        self.assertEqual(len(one.with_letters("yz")), 40)
        self.assertEqual(next((~one).behind("ba" * 6).in_order()), "")

    def test_turned_at_twelve_states(self):
        eighth = Language("ab", tuple((state + 1, state + 1) for state in range(7)) + ((9, 8), (8, 8), (9, 9)), (8,))
        self.assertEqual(len(eighth), 10)
        self.assertEqual(len(eighth.turned()), 256)
        for text in samples("ab", 500, 30, 44) + ["b" + "a" * 7, "b" * 2000]:
            self.assertIs(text in eighth, text[7:8] == "b")
            self.assertIs(text in eighth.turned(), len(text) >= 8 and text[-8] == "b")

    def test_joined_at_twelve_states(self):
        # On the way to the joined language more than 30,000 sets of states are reached.
        one, other = counting("abc", "a", 12), climbing(12)
        self.assertEqual((len(one), len(other)), (12, 12))
        joined = one + other
        self.assertLessEqual(len(joined), 300)
        for text in samples("abc", 500, 60, 45) + ["a" * 24, "ab" * 30]:
            self.assertIs(text in joined, is_joined(one, other, text))

    def test_starred_at_twelve_states(self):
        for language in (climbing(12), counting("abc", "a", 5) & having("abc", "b") & ~having("abc", "c"),
                         beginning("abc", "abcabacab"), finite("abc", "abcabacab", "abcabcab")):
            self.assertLessEqual(len(language), 12)
            many = language.starred()
            self.assertLessEqual(len(many), 300)
            for text in samples("abc", 200, 30, 46) + ["abcabacababcabcab", "abcabacab" * 3, "a" * 24]:
                self.assertIs(text in many, is_starred(language, text))

    def test_random_machines_with_twelve_states(self):
        chance = random.Random(47)
        for _ in range(12):
            one, other = [Language("ab", tuple(tuple(chance.randrange(12) for _ in "ab") for _ in range(12)), ends)
                          for ends in ((11,), (3, 7))]
            made = one + other, one.starred(), one.turned()
            for text in samples("ab", 60, 20, 48):
                wanted = is_joined(one, other, text), is_starred(one, text), text[::-1] in one
                self.assertEqual(tuple(text in language for language in made), wanted)

    def test_long_texts(self):
        text = "abcd" * 500
        self.assertIs(is_text("abcd", text), True)
        self.assertIs(is_text("abc", text), False)
        self.assertIs(text in having("abcd", "dabc", 6), True)
        self.assertIs(text + "e" in having("abcd", "dabc", 6), False)


if __name__ == "__main__":
    unittest.main()
