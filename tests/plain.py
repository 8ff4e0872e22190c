"""What the tests share: plain Python beside the program, and values of every kind."""

import itertools
import random
import unittest

from piecesseen import errors
from piecesseen.languages import Language


def texts(letters, longest):
    """All texts over letters up to a length, in order."""
    return ["".join(signs) for length in range(longest + 1) for signs in itertools.product(letters, repeat=length)]


def run(letters, rows, state, text):
    """The state to which a text leads."""
    for sign in text:
        state = rows[state][letters.index(sign)]
    return state


def chosen(letters, rows, ends, longest):
    """The texts of a machine up to a length, in order."""
    return [text for text in texts(letters, longest) if run(letters, rows, 0, text) in ends]


def listed(language, longest):
    """The texts of a language up to a length, in order, by `in` alone."""
    return [text for text in texts(language.letters, longest) if text in language]


def machines(seed, many, letters, most_states):
    """Machines over letters, other ones for each seed, some with few ends and some with many."""
    chance = random.Random(seed)
    for _ in range(many):
        size = chance.randint(1, most_states)
        rows = tuple(tuple(chance.randrange(size) for _ in letters) for _ in range(size))
        ends = tuple(state for state in range(size) if chance.random() < chance.choice((0.2, 0.5, 0.8)))
        yield letters, rows, ends


def languages(seed, many, letters, most_states):
    """Languages of such machines."""
    return [Language(*machine) for machine in machines(seed, many, letters, most_states)]


def nested(depth):
    """A value that is nested so deep."""
    thing = ("ab",)
    for level in range(depth - 1):
        thing = [thing] if level % 2 else (thing, {"a": level})
    return thing


def odd_values():
    """Values of every kind that are neither letters, nor texts, nor parts of machines."""
    language = Language("ab", ((0, 1), (1, 1)), (1,))
    return [
        None, True, False, 0, 1, -1, 7, 10 ** 39, (), (0,), (1, 0), (True,), ("a",), ("ab", "ba"), (None,), ((),),
        ((0, 1),), [], ["a"], ["a", "b"], [0], [[0, 1], [1, 1]], {}, {"a": "b"}, {0: 1}, {1: (0, 1)}, language,
        (language,), [language], {"a": language}, errors.PieceError(), errors.BadText("a"), errors.OtherLetters(),
        nested(30), tuple(range(60000)), [("a",)] * 30000, {number: "a" for number in range(30000)},
    ]


ODD_STRINGS = ("A", "aB", "\n", "a\n", "a b", " ", "~", "a~", "1", "a1", "{", "`", "a" * 1999 + "~", "letters ab")


class PlainCase(unittest.TestCase):
    """A test case that asks for errors with just one attribute."""

    def assert_error(self, error_class, attribute, value, call, *arguments, **named):
        """The call raises just this error, and its one attribute is this value (or this very object)."""
        with self.assertRaises(errors.PieceError) as caught:
            call(*arguments, **named)
        self.assertIs(caught.exception.__class__, error_class)
        if attribute is None:
            self.assertEqual(vars(caught.exception), {})
        else:
            self.assertEqual(list(vars(caught.exception)), [attribute])
            found = getattr(caught.exception, attribute)
            self.assertIs(found.__class__, value.__class__)
            self.assertTrue(found is value or found == value)
