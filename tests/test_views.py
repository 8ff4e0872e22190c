"""views, first_text and view_holds, beside a search through the texts in order."""

import itertools
import unittest

from judged import otherwise, plain_view, words
from piecesseen.errors import BadView
from piecesseen.views import first_text, view_holds, view_of, views
from plain import ODD_STRINGS, PlainCase, odd_values, texts

SIZES = [("a", 1, 1), ("a", 1, 20), ("a", 8, 20), ("a", 3, 2), ("ab", 1, 1), ("ab", 1, 4), ("ab", 2, 1), ("ab", 2, 2),
         ("ab", 2, 3), ("ab", 3, 1), ("bcd", 1, 2), ("wxyz", 1, 1), ("wxyz", 1, 2), ("wx", 3, 1)]


def first_texts(letters, width, top):
    """The first text of each view, by going on with the first texts of others."""
    found = {("short", ""): ""}
    waiting = [""]
    for text in waiting:
        for letter in letters:
            view = plain_view(letters, width, top, text + letter)
            if view not in found:
                found[view] = text + letter
                waiting.append(text + letter)
    return found


def candidates(letters, width, top):
    """All values with the form of a long view whose pieces are ascending."""
    for first, last in itertools.product(words(letters, width - 1), repeat=2):
        for numbers in itertools.product(range(top + 1), repeat=len(letters) ** width):
            counts = tuple((word, number) for word, number in zip(words(letters, width), numbers) if number)
            yield "long", first, last, counts


class ViewsTest(unittest.TestCase):
    def test_in_the_order_of_first_texts(self):
        for letters, width, top in SIZES:
            self.assertEqual(list(views(letters, width, top)), list(first_texts(letters, width, top)))

    def test_against_all_texts(self):
        for letters, width, top, longest in (("a", 3, 4, 9), ("ab", 1, 3, 8), ("ab", 2, 1, 9), ("abc", 1, 1, 6),
                                             ("ab", 2, 2, 12)):
            found = {}
            for text in texts(letters, longest):
                found.setdefault(plain_view(letters, width, top, text), text)
            self.assertLess(max(len(text) for text in found.values()), longest)
            self.assertEqual(list(views(letters, width, top)), list(found))

    def test_numbers_of_views(self):
        for width in range(1, 9):
            for top in range(1, 21):
                self.assertEqual(len(list(views("q", width, top))), width + top)
        for letters, most in (("a", 20), ("ab", 20), ("abc", 10), ("wxyz", 6)):
            for top in range(1, most + 1):
                self.assertEqual(len(list(views(letters, 1, top))), (top + 1) ** len(letters))

    def test_the_first_ones_come_at_once(self):
        # There are far more views than could be gone through.
        found = list(itertools.islice(views("abcd", 8, 20), 1000))
        self.assertEqual(found, [("short", text) for text in texts("abcd", 5)[:1000]])
        found = list(itertools.islice(views("abcd", 2, 20), 500))
        self.assertEqual([view_of(2, 20, first_text("abcd", 2, 20, view)) for view in found], found)

    def test_listings_do_not_disturb_each_other(self):
        wanted = list(views("ab", 2, 2))
        self.assertEqual(list(views("ab", 2, 2)), wanted)
        one, other = views("ab", 2, 2), views(top=2, width=2, letters="ab")
        found = [next(one), next(one), next(one)]
        self.assertEqual([next(other) for _ in range(5)], wanted[:5])
        found += list(one)
        self.assertEqual(found, wanted)
        self.assertEqual(list(other), wanted[5:])


class FirstTextTest(PlainCase):
    def test_first_texts(self):
        for letters, width, top in SIZES:
            for view, text in first_texts(letters, width, top).items():
                self.assertEqual(first_text(letters, width, top, view), text)
        self.assertEqual(first_text(view=("short", "ab"), top=1, width=3, letters="ab"), "ab")

    def test_the_first_one_of_all_texts(self):
        found = {}
        for text in texts("ab", 10):
            found.setdefault(view_of(3, 2, text), text)
        for view, text in found.items():
            self.assertEqual(first_text("ab", 3, 2, view), text)

    def test_what_is_no_view(self):
        wrong = [("short", "ab"), ("short", "c"), ("long", "a", "a", ()), ("long", "a", "b", (("ab", 3),)),
                 ("long", "a", "b", (("ab", 0),)), ("long", "b", "a", (("ab", 1),)), ["short", "a"], ("short",),
                 ("long", "a", "b", (("ab", True),)), ("long", "a", "b", [("ab", 1)]), "short", ("long", "a", "b"),
                 ("long", "a", "b", (("ab", 2),)), ("long", "a", "b", (("ab", 1), ("ba", 2)))]
        for thing in [*odd_values(), *ODD_STRINGS, *wrong]:
            self.assert_error(BadView, "value", thing, first_text, "ab", 2, 2, thing)
            self.assert_error(BadView, "value", thing, first_text, view=thing, top=2, width=2, letters="ab")


class ViewHoldsTest(PlainCase):
    def test_each_view(self):
        for letters, width, top in SIZES:
            for view in views(letters, width, top):
                self.assertIs(view_holds(letters, width, top, view), True)

    def test_all_candidates(self):
        for letters, width, top in (("a", 1, 3), ("a", 4, 3), ("ab", 1, 4), ("ab", 2, 1), ("ab", 2, 2), ("ab", 2, 3),
                                    ("ab", 3, 1), ("abc", 2, 1), ("abcd", 1, 2)):
            known = set(views(letters, width, top))
            held = {thing for thing in candidates(letters, width, top) if view_holds(letters, width, top, thing)}
            self.assertEqual(held, {view for view in known if view[0] == "long"})

    def test_with_one_thing_otherwise(self):
        # Lists and bools are told apart from tuples and integers by how they are written.
        for letters, width, top in (("a", 1, 2), ("a", 3, 2), ("ab", 1, 2), ("ab", 2, 2), ("bcd", 1, 1)):
            known = {repr(view) for view in views(letters, width, top)}
            fillers = [top, top + 1, "short", "long", letters[0] * width, letters[-1] * (width - 1), "{" * width,
                       letters[0].upper() * width]
            for view in views(letters, width, top):
                for thing in otherwise(view, fillers):
                    self.assertIs(view_holds(letters, width, top, thing), repr(thing) in known, thing)

    def test_views_for_other_numbers_and_letters(self):
        known = {(width, top): set(views("ab", width, top)) for width in (1, 2, 3) for top in (1, 2)}
        for (width, top), held in known.items():
            for view in set().union(*known.values()):
                self.assertIs(view_holds("ab", width, top, view), view in held)
                self.assertIs(view_holds("bc", width, top, view), "a" not in repr(view[1:]) and view in held)
                self.assertIs(view_holds("abcd", width, top, view), view in held)

    def test_pieces_that_do_not_go_together(self):
        wrong = [(("aa", 1), ("bb", 1)), (("ab", 2),), (("ab", 2), ("aa", 1)), (("ab", 1), ("bb", 1), ("ba", 1)),
                 (("ab", 1), ("ab", 1)), (("aab", 1),), (("a", 1),), (("ac", 1),), (("ba", 1),)]
        for counts in wrong:
            self.assertIs(view_holds("ab", 2, 5, ("long", "a", "b", counts)), False)
        self.assertIs(view_holds("ab", 2, 5, ("long", "a", "b", (("aa", 5), ("ab", 3), ("ba", 2)))), True)
        self.assertIs(view_holds("ab", 2, 5, ("long", "a", "b", (("aa", 5), ("ab", 3), ("ba", 3)))), False)
        self.assertIs(view_holds("ab", 2, 3, ("long", "a", "b", (("aa", 3), ("ab", 3), ("ba", 3)))), True)

    def test_values_of_every_other_kind(self):
        for letters, width, top in SIZES:
            for thing in [*odd_values(), *ODD_STRINGS]:
                self.assertIs(view_holds(letters, width, top, thing), False)
        many = tuple(("ab", number) for number in range(1, 15000))
        self.assertIs(view_holds("ab", 2, 20, ("long", "a", "b", many)), False)
        self.assertIs(view_holds(thing=("short", "b"), top=1, width=2, letters="ab"), True)


if __name__ == "__main__":
    unittest.main()
