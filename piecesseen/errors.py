"""The errors that this package raises."""


class PieceError(Exception):
    """The base class of all errors of this package."""


class BadLanguage(PieceError):
    """A part of a machine, "letters", "rows" or "ends", is none."""

    def __init__(self, part):
        self.part = part


class BadLine(PieceError):
    """A line of the text of a machine is missing or wrong; 0 for what is no string."""

    def __init__(self, line):
        self.line = line


class BadText(PieceError):
    """A value is no text over the letters."""

    def __init__(self, value):
        self.value = value


class BadView(PieceError):
    """A value is no view of a text over the letters."""

    def __init__(self, value):
        self.value = value


class BadPlace(PieceError):
    """A value is no place, or no index, of a text."""

    def __init__(self, place):
        self.place = place


class OtherLetters(PieceError):
    """Two languages are over different letters."""


class NoJudge(PieceError):
    """No judge of a kind is right for a language; the paper shows it."""

    def __init__(self, paper):
        self.paper = paper


class Unjudged(PieceError):
    """Two texts with the same view are answered differently."""

    def __init__(self, pair):
        self.pair = pair


class NothingToUndo(PieceError):
    """No letter, or no deed, is left that could be taken back."""


class NoLanguage(PieceError):
    """A name keeps no language."""

    def __init__(self, name):
        self.name = name


class InvalidCommand(PieceError):
    """A command of a console has not the form of one."""
