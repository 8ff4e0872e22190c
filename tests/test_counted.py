"""Papers with tables: they are right, also where k or t is great, and they come in a time that fits their tables."""

import time
import unittest

from asked import AHEAD, EVEN, FIRST, answered, exchanging, found_languages, two_rounds
from judged import actions
from papers_plain import MOST, done, is_paper, is_within, plain_for, plain_table, same
from piecesseen.actions import actions_of
from piecesseen.counted import paper_against_counts, product_table
from piecesseen.counting import is_counting, table_of
from piecesseen.languages import Language
from piecesseen.makers import beginning, ending, finite, having, lengths
from piecesseen.rounds import rounds_done
from piecesseen.verdicts import verdict, verdict_holds
from plain import PlainCase

# With the least k, and the least t for this k.
SMALL = [
    (having("ab", "ab", 2), 2, 2), (having("ab", "ab"), 2, 1), (~having("ab", "ab", 2) & beginning("ab", "a"), 2, 2),
    (having("ab", "bb") & having("ab", "ba", 2) & ending("ab", "a"), 2, 2), (finite("ab", "ab", "ba", "aab"), 2, 2),
    (having("abc", "b", 3) & having("abc", "a", 2), 1, 3), (having("abc", "b", 3), 1, 3), (having("abc", "ab"), 2, 1),
    (finite("abc", "ab", "ba", "cab"), 2, 1), (having("a", "a", 6), 1, 6), (having("ab", "b", 6), 1, 6),
    (having("ab", "aba"), 3, 1), (having("abcd", "d", 3), 1, 3), (having("a", "aaaa", 3), 1, 6), (finite("ab"), 1, 1),
    (~finite("wxyz"), 1, 1), (finite("a", "aaa"), 1, 4), (having("bcd", "c") | ending("bcd", "d"), 2, 1),
]


def climbing(letters, steps):
    """The texts in which the first letter stands at an odd number of places, or at least at so many."""
    rows = tuple((min(state + 1, steps),) + (state,) * (len(letters) - 1) for state in range(steps + 1))
    return Language(letters, rows, tuple(state for state in range(steps + 1) if state % 2 or state == steps))


# Here there are nearly as many views as there may be, or k or t is as great as a language within the limits needs.
GREAT = [
    (climbing("a", 15), 1, 15), (climbing("ab", 15), 1, 15), (climbing("abc", 15), 1, 15), (climbing("abcd", 7), 1, 7),
    (having("ab", "ab", 6), 2, 6), (finite("ab", "a" * 9, "ab"), 2, 9), (having("ab", "aba", 2), 3, 2),
    (having("ab", "bab", 2) & ~beginning("ab", "ab"), 3, 2), (beginning("abc", "c") & ending("abc", "b"), 2, 1),
    (having("abcd", "d", 6), 1, 6), (having("abcd", "c", 2) & having("abcd", "a", 3), 1, 3),
    (finite("ab", "abb", "bba"), 2, 2), (having("ab", "abb") & ending("ab", "bb"), 3, 1),
]


class PapersTest(PlainCase):
    def assert_right(self, language, paper):
        """The paper shows that the language is judged by counts."""
        _, width, top, table = paper
        self.assertEqual(paper, ("counting", width, top, table_of(language, width, top)))
        self.assertTrue(same(table, plain_table(language, width, top)))
        self.assertIs(verdict_holds(language, "counting", paper), True)
        self.assertTrue(same(verdict(language, "counting"), paper))

    def test_small_tables(self):
        for language, width, top in SMALL:
            paper = verdict(language, "counting")
            self.assert_right(language, paper)
            self.assertEqual(paper[1:3], (width, top))

    def test_great_tables(self):
        for language, width, top in GREAT:
            self.assertTrue(len(language) <= 16 and len(actions(language)) <= 100)
            paper = verdict(language, "counting")
            self.assert_right(language, paper)
            self.assertEqual(paper[1:3], (width, top))
            self.assertLessEqual(len(paper[3]), 5000)

    def test_no_smaller_number(self):
        for language, width, top in SMALL + GREAT:
            for smaller in range(1, width):
                self.assertIs(is_counting(language, smaller, 9), False)
            self.assertTrue(top == 1 or not is_counting(language, width, top - 1))

    def test_a_wrong_state_is_refused(self):
        for language, _, _ in SMALL + GREAT:
            if len(language) > 1:
                kind, width, top, table = verdict(language, "counting")
                view, state = table[len(table) // 2]
                wrong = table[:len(table) // 2] + ((view, (state + 1) % len(language)),) + table[len(table) // 2 + 1:]
                self.assertIs(verdict_holds(language, "counting", (kind, width, top, wrong)), False)

    def test_many_languages(self):
        told = []
        for language, kind, paper in answered(201):
            if kind == "counting" and paper[0] == kind:
                told.append(paper[1:3])
                self.assertTrue(plain_for(language, kind, paper))
                self.assertLessEqual(len(paper[3]), 5000)
        self.assertTrue({(1, 1), (1, 2), (1, 3), (2, 1), (2, 2)} <= set(told))

    def test_against_counts(self):
        for language in (EVEN, AHEAD, FIRST, exchanging(0), exchanging(5), two_rounds(3, 4, 1), lengths("a", 5, (0, 2)),
                         lengths("abcd", 12, (0, 3)), lengths("ab", 2, (1,)) & having("ab", "ab", 2)):
            paper = verdict(language, "counting")
            self.assertIn(paper[0], ("power", "exchange"))
            self.assertTrue(is_paper(language, paper))
            self.assertTrue(same(verdict(language, "counting"), paper))

    def test_products_of_actions(self):
        for language in found_languages(201):
            found = actions_of(language.letters, language.rows)
            every = list(found)
            table = product_table(found)
            self.assertEqual([[every[number] for number in row] for row in table],
                             [[done(one, other) for other in every] for one in every])


class TimeTest(unittest.TestCase):
    def seconds(self, many, call, arguments):
        """How long so many rounds of calls take on the processor."""
        start = time.process_time()
        for _ in range(many):
            for parts in arguments:
                call(*parts)
        return time.process_time() - start

    def test_some_hundred_calls(self):
        self.assertLess(self.seconds(25, verdict, [(language, "counting") for language, _, _ in SMALL]), 3)

    def test_the_greatest_calls(self):
        self.assertLess(self.seconds(3, verdict, [(language, "counting") for language, _, _ in GREAT]), 3)

    def test_beside_tables(self):
        for among in (SMALL, GREAT):
            tables = self.seconds(10, table_of, among)
            self.assertLess(self.seconds(10, verdict, [(language, "counting") for language, _, _ in among]), 6 * tables)

    def test_many_languages(self):
        for language in found_languages(201):
            if is_within(language, "counting"):
                self.assertLess(self.seconds(1, verdict, [(language, "counting")]), 0.5)


class RoundsTest(unittest.TestCase):
    def test_by_hand(self):
        self.assertEqual(rounds_done(having("ab", "b", 3), 1), 3)
        self.assertEqual(rounds_done(having("ab", "b", 3), 2), 3)
        self.assertEqual(rounds_done(having("a", "a" * 5), 1), 5)
        self.assertEqual(rounds_done(having("a", "a" * 5), 4), 2)
        self.assertEqual(rounds_done(having("a", "a" * 5), 6), 0)
        self.assertEqual(rounds_done(finite("abc"), 1), 0)
        self.assertIsNone(rounds_done(having("ab", "ab"), 1))
        self.assertEqual(rounds_done(having("ab", "ab", 4), 2), 4)
        self.assertIsNone(rounds_done(having("ab", "aba"), 2))
        self.assertEqual(rounds_done(having("ab", "aba"), 3), 1)
        self.assertIsNone(rounds_done(AHEAD, 1))

    def test_one_more_than_rounds_tell(self):
        # The texts "abba" and "ababba", with one ab and with two, look the same with t = 1. But "aba" and "ababa", which
        # are a round apart, lead to one state: whoever comes from there to the first bb comes over one more ab.
        language = beginning("ab", "a") & having("ab", "bb") & having("ab", "ab", 2)
        self.assertEqual(rounds_done(language, 2), 1)
        self.assertIs(is_counting(language, 2, 1), False)
        self.assertIs(is_counting(language, 2, 2), True)
        paper = verdict(language, "counting")
        self.assertEqual(paper, ("counting", 2, 2, table_of(language, 2, 2)))
        self.assertTrue(plain_for(language, "counting", paper))

    def test_beside_tables(self):
        most = {1: {1: 20, 2: 20, 4: 20}, 2: {1: 16, 2: 8, 3: 2}, 3: {1: 12, 2: 1}, 4: {1: 6}}
        told = []
        languages = found_languages(201) + [language for language, _, _ in SMALL + GREAT]
        for language in [language for language in languages if paper_against_counts(language) is None]:
            for width, greatest in most[len(language.letters)].items():
                times = rounds_done(language, width)
                right = [top for top in range(1, greatest + 1) if is_counting(language, width, top)]
                told.append((times is None, right == []))
                if right:
                    self.assertIn(right[0], (max(times, 1), times + 1))
                else:
                    # What is beyond the numbers that are tried here may still be right.
                    self.assertTrue(times is None or times + 1 > greatest or not is_counting(language, width, times + 1))
        self.assertGreater(told.count((True, True)), 20)
        self.assertGreater(told.count((False, False)), 100)
        self.assertNotIn((True, False), told)

    def test_letters_that_change_places(self):
        for language in found_languages(201):
            every = [tuple(row[at] for row in language.rows) for at in range(len(language.letters))]
            told = all(done(one, other) == done(other, one) for one in every for other in every)
            if paper_against_counts(language) is None:
                self.assertEqual(rounds_done(language, 1) is not None, told)
                if told:
                    top = max(rounds_done(language, 1), 1)
                    self.assertIs(is_counting(language, 1, top), True)

    def test_the_numbers_within_the_limits(self):
        # With these numbers there is a paper of at most 5,000 views, if there is any.
        for language in found_languages(201):
            if is_within(language, "counting") and paper_against_counts(language) is None:
                paper = verdict(language, "counting")
                self.assertTrue(any(paper[1] <= width and paper[2] <= top for width, top in MOST[len(language.letters)]))


if __name__ == "__main__":
    unittest.main()
