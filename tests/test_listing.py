"""`in`, in_order and many_of."""

import itertools
import unittest

from piecesseen.languages import Language
from piecesseen.makers import beginning, finite, having, lengths
from plain import ODD_STRINGS, PlainCase, chosen, machines, odd_values, texts


def first_ones(language, many):
    return list(itertools.islice(language.in_order(), many))


def ring(letters, size, ends):
    """The language of the texts whose length leaves some rests when divided by the size."""
    return Language(letters, tuple(((state + 1) % size,) * len(letters) for state in range(size)), ends)


class InTest(PlainCase):
    def test_texts(self):
        for machine in machines(11, 40, "ab", 6):
            language = Language(*machine)
            held = chosen(*machine, 6)
            for text in texts("ab", 6):
                self.assertIs(text in language, text in held)
                self.assertIs(text not in language, text not in held)

    def test_long_texts(self):
        even = Language("ab", ((0, 1), (1, 0)), (0,))
        self.assertIn("ab" * 1000, even)
        self.assertNotIn("ab" * 999 + "a", even)

    def test_values_that_are_no_texts(self):
        every = Language("ab", ((0, 0),), (0,))
        for language in (every, ~every):
            for thing in [*odd_values(), *ODD_STRINGS, "c", "abc"]:
                self.assertIs(thing in language, False)


class InOrderTest(PlainCase):
    def test_against_all_texts(self):
        for letters, longest in (("a", 12), ("ab", 7), ("bcd", 5), ("abyz", 4)):
            for machine in machines(12, 40, letters, 5):
                language = Language(*machine)
                held = chosen(*machine, longest)
                self.assertEqual(first_ones(language, len(held)), held)
                beyond = list(itertools.islice(language.in_order(), len(held), len(held) + 1))
                self.assertTrue(all(len(text) > longest and text in language for text in beyond))

    def test_finite_languages_come_to_an_end(self):
        for held in ([], [""], ["", "a"], ["b", "aa", "ab", "bab"], ["b" * 11, "a" * 12], ["abababababab"]):
            self.assertEqual(list(finite("ab", *held).in_order()), held)
            self.assertEqual(list(finite("ab", *held[::-1]).in_order()), held)
        self.assertEqual(list(finite("abcd").in_order()), [])

    def test_only_some_lengths(self):
        for period, rests in ((7, (3,)), (12, (11,)), (12, (0, 5))):
            language = lengths("ab", period, rests)
            wanted = [text for text in texts("ab", 7) if len(text) % period in rests]
            self.assertEqual(first_ones(language, len(wanted)), wanted)
            language = lengths("a", period, rests)
            wanted = ["a" * length for length in range(200) if length % period in rests]
            self.assertEqual(first_ones(language, len(wanted)), wanted)
        rare = lengths("ab", 11, (7,)) & lengths("ab", 12, (5,)) & ~having("ab", "b")
        self.assertEqual([len(text) for text in first_ones(rare, 4)], [29, 161, 293, 425])

    def test_a_long_first_text(self):
        language = ring("abcd", 300, (299,))
        self.assertEqual(first_ones(language, 3), ["a" * 299, "a" * 298 + "b", "a" * 298 + "c"])
        chain = Language("ab", tuple((0, min(state + 1, 299)) for state in range(300)), (299,))
        self.assertEqual(first_ones(chain, 3), ["b" * 299, "a" + "b" * 299, "b" * 300])
        # Behind the first letter only one way of many leads to an end, and only at great lengths.
        wide = ring("abc", 60, (59,)) & beginning("abc", "cb") & ~having("abc", "a", 2)
        self.assertEqual(first_ones(wide, 1), ["cba" + "b" * 56])

    def test_two_listings_side_by_side(self):
        language = having("ab", "ba")
        one, other = language.in_order(), language.in_order()
        self.assertEqual(next(one), "ba")
        self.assertEqual([next(other) for _ in range(3)], ["ba", "aba", "baa"])
        self.assertEqual([next(one) for _ in range(3)], ["aba", "baa", "bab"])
        self.assertEqual(next(other), "bab")
        pairs = list(itertools.islice(zip(language.in_order(), language.in_order()), 50))
        self.assertTrue(all(one == other for one, other in pairs))

    def test_a_generator(self):
        listing = having("ab", "b").in_order()
        self.assertIs(iter(listing), listing)


class ManyOfTest(PlainCase):
    def test_against_all_texts(self):
        for letters, longest in (("a", 10), ("ab", 7), ("abc", 5)):
            for machine in machines(13, 30, letters, 6):
                language = Language(*machine)
                held = chosen(*machine, longest)
                for length in range(longest + 1):
                    self.assertEqual(language.many_of(length), len([text for text in held if len(text) == length]))
                    self.assertEqual(language.many_of(length=length), language.many_of(length))

    def test_long_texts(self):
        every = Language("abcd", ((0, 0, 0, 0),), (0,))
        self.assertEqual([every.many_of(length) for length in (0, 1, 2, 299, 300)],
                         [1, 4, 16, 4 ** 299, 4 ** 300])
        self.assertEqual((~every).many_of(300), 0)
        self.assertEqual(having("ab", "b", 2).many_of(300), 2 ** 300 - 301)
        self.assertEqual(lengths("ab", 7, (6,)).many_of(300), 2 ** 300)
        self.assertEqual(lengths("ab", 7, (6,)).many_of(299), 0)
        self.assertEqual(ring("ab", 300, (0,)).many_of(300), 2 ** 300)
        self.assertEqual(ring("ab", 300, (0,)).many_of(0), 1)
        # Without bb: the numbers of Fibonacci.
        one, other = 1, 2
        for length in range(301):
            self.assertEqual((~having("ab", "bb")).many_of(length), one)
            one, other = other, one + other


if __name__ == "__main__":
    unittest.main()
