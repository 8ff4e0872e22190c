"""The least machine of a language, its states' order, equality, len and bool."""

import random
import unittest

from piecesseen.languages import Language
from plain import PlainCase, chosen, listed, machines, odd_values, run, texts


def shuffled(chance, rows, ends):
    """The same machine with its states, but for the first one, in another order."""
    order = list(range(1, len(rows)))
    chance.shuffle(order)
    order = [0] + order
    place = {state: number for number, state in enumerate(order)}
    new_rows = tuple(tuple(place[target] for target in rows[state]) for state in order)
    return new_rows, tuple(sorted(place[end] for end in ends))


def with_copies(chance, rows, ends):
    """A machine with each state twice; each target is one of the two copies."""
    many = len(rows)
    doubled = rows + rows
    new_rows = tuple(tuple(target + many * chance.randrange(2) for target in row) for row in doubled)
    return new_rows, tuple(ends) + tuple(end + many for end in ends)


def with_unreached(chance, rows, ends):
    """A machine with more states, to which no text leads."""
    many = len(rows)
    more = tuple(tuple(chance.randrange(many + 3) for _ in rows[0]) for _ in range(3))
    return rows + more, tuple(ends) + (many, many + 2)


class LeastMachineTest(PlainCase):
    def assert_least(self, language, letters, rows, ends):
        """The language's machine has the texts of the other one, no state too many, and the right order."""
        longest = 6 if len(letters) < 3 else 5
        self.assertEqual(language.letters, letters)
        self.assertEqual(chosen(letters, language.rows, language.ends, longest), chosen(letters, rows, ends, longest))
        firsts = []
        for text in texts(letters, longest):
            state = run(letters, language.rows, 0, text)
            if state not in firsts:
                firsts.append(state)
        self.assertEqual(firsts, list(range(len(language.rows))))
        answers = [tuple(run(letters, language.rows, state, text) in language.ends for text in texts(letters, 4))
                   for state in firsts]
        self.assertEqual(len(set(answers)), len(answers))

    def test_least_machines_of_small_machines(self):
        for letters in ("a", "ab", "xyz"):
            for machine in machines(1, 60, letters, 5):
                language = Language(*machine)
                self.assert_least(language, *machine)
                self.assertIs(language.rows.__class__, tuple)
                self.assertTrue(all(row.__class__ is tuple for row in language.rows))
                self.assertEqual(language.ends, tuple(sorted(set(language.ends))))

    def test_copies_unreached_states_and_other_orders(self):
        chance = random.Random(2)
        for letters in ("a", "bc", "abcd"):
            for _, rows, ends in machines(3, 40, letters, 9):
                language = Language(letters, rows, ends)
                for change in (shuffled, with_copies, with_unreached):
                    changed = change(chance, rows, ends)
                    for again in (changed, shuffled(chance, *with_copies(chance, *changed))):
                        other = Language(letters, *again)
                        self.assertEqual(other.rows, language.rows)
                        self.assertEqual(other.ends, language.ends)
                        self.assertIs(language == other, True)
                        self.assertIs(language != other, False)
                        self.assertEqual(len(other), len(language))

    def test_a_least_machine_is_kept(self):
        for machine in machines(4, 60, "ab", 8):
            language = Language(*machine)
            again = Language(language.letters, language.rows, language.ends)
            self.assertEqual((again.rows, again.ends), (language.rows, language.ends))

    def test_known_machines(self):
        some_b = Language("ab", ((2, 1), (3, 1), (0, 3), (1, 3)), (1, 3))
        self.assertEqual((some_b.letters, some_b.rows, some_b.ends), ("ab", ((0, 1), (1, 1)), (1,)))
        none = Language("ab", ((1, 1), (0, 1)), ())
        self.assertEqual((none.rows, none.ends, len(none)), (((0, 0),), (), 1))
        every = Language("ab", ((1, 1), (0, 1)), (0, 1))
        self.assertEqual((every.rows, every.ends, len(every)), (((0, 0),), (0,), 1))
        # The state behind a comes ahead of the state behind b, whatever their numbers were.
        order = Language("ab", ((2, 1), (1, 1), (2, 0)), (1,))
        self.assertEqual((order.rows, order.ends), (((1, 2), (1, 0), (2, 2)), (2,)))

    def test_len_and_bool(self):
        for machine in machines(5, 30, "ab", 6):
            language = Language(*machine)
            self.assertEqual(len(language), len(language.rows))
            self.assertIs(bool(language), True)
        self.assertIs(bool(Language("a", ((0,),), ())), True)

    def test_equality_of_languages(self):
        found = [Language(*machine) for machine in machines(6, 25, "ab", 3)]
        for one in found:
            for other in found:
                same = listed(one, 5) == listed(other, 5)
                self.assertIs(one == other, same)
                self.assertIs(one != other, not same)

    def test_languages_over_other_letters_differ(self):
        for letters in ("a", "b", "bc", "abc"):
            self.assertIs(Language("ab", ((0, 0),), ()) == Language(letters, ((0,) * len(letters),), ()), False)
        self.assertIs(Language("ab", ((0, 1), (1, 1)), (1,)) == Language("ac", ((0, 1), (1, 1)), (1,)), False)

    def test_no_other_value_is_equal(self):
        language = Language("ab", ((0, 1), (1, 1)), (0,))
        for thing in [*odd_values(), "ab", str(language), ("ab", language.rows, language.ends)]:
            self.assertIs(language == thing, False)
            self.assertIs(thing == language, False)
            self.assertIs(language != thing, True)

    def test_not_iterated(self):
        with self.assertRaises(TypeError):
            iter(Language("ab", ((0, 1), (1, 1)), (1,)))


if __name__ == "__main__":
    unittest.main()
