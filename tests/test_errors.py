"""The error classes: their attributes and their places among the errors."""

import builtins
import unittest

from piecesseen import errors
from plain import ODD_STRINGS, odd_values

WITH_ONE = {
    "BadLanguage": "part", "BadLine": "line", "BadText": "value", "BadView": "value", "BadPlace": "place",
    "NoJudge": "paper", "Unjudged": "pair", "NoLanguage": "name",
}
WITHOUT = ("OtherLetters", "NothingToUndo", "InvalidCommand")


def class_of(name):
    return getattr(errors, name)


class ErrorsTest(unittest.TestCase):
    def test_attributes_by_position_and_by_name(self):
        for name, attribute in WITH_ONE.items():
            for value in [*odd_values(), *ODD_STRINGS, "", "rows"]:
                for error in (class_of(name)(value), class_of(name)(**{attribute: value})):
                    self.assertIs(getattr(error, attribute), value)
                    self.assertEqual(list(vars(error)), [attribute])

    def test_a_parameter_has_to_be_passed(self):
        for name in WITH_ONE:
            self.assertRaises(TypeError, class_of(name))
            self.assertRaises(TypeError, class_of(name), 1, 2)

    def test_without_parameters(self):
        for name in WITHOUT:
            self.assertEqual(vars(class_of(name)()), {})

    def test_bases(self):
        self.assertEqual(errors.PieceError.__bases__, (Exception,))
        for name in [*WITH_ONE, *WITHOUT]:
            self.assertEqual(class_of(name).__bases__, (errors.PieceError,))

    def test_no_other_classes(self):
        found = [name for name, thing in vars(errors).items() if isinstance(thing, type)]
        self.assertEqual(sorted(found), sorted(["PieceError", *WITH_ONE, *WITHOUT]))

    def test_raised_and_caught_as_what_they_are(self):
        for name in [*WITH_ONE, *WITHOUT]:
            error = class_of(name)(3) if name in WITH_ONE else class_of(name)()
            for caught in (class_of(name), errors.PieceError, Exception):
                with self.assertRaises(caught) as context:
                    raise error
                self.assertIs(context.exception, error)
            for other in [*WITH_ONE, *WITHOUT]:
                self.assertEqual(isinstance(error, class_of(other)), other == name)

    def test_none_of_the_errors_of_python(self):
        known = [thing for thing in vars(builtins).values() if isinstance(thing, type)]
        foreign = [kind for kind in known if issubclass(kind, BaseException) and kind not in (BaseException, Exception)]
        for name in ["PieceError", *WITH_ONE, *WITHOUT]:
            for kind in foreign:
                self.assertFalse(issubclass(class_of(name), kind))

    def test_piece_error_itself(self):
        with self.assertRaises(errors.PieceError) as context:
            raise errors.PieceError("why")
        self.assertIs(context.exception.__class__, errors.PieceError)
        for name in [*WITH_ONE, *WITHOUT]:
            self.assertFalse(isinstance(context.exception, class_of(name)))


if __name__ == "__main__":
    unittest.main()
