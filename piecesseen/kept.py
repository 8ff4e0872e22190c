"""Texts that are edited."""

from piecesseen.errors import BadPlace, BadText, NothingToUndo
from piecesseen.languages import is_text
from piecesseen.machines import is_state
from piecesseen.views import view_of


class Kept:
    """A text that is edited; each deed can be taken back."""

    def __init__(self, letters, width, top=1, text=""):
        if not is_text(letters, text):
            raise BadText(text)
        self._letters = letters
        self._width = width
        self._top = top
        self._text = text
        self._earlier = []

    @property
    def text(self):
        """The text as it is now."""
        return self._text

    @property
    def view(self):
        """The view of the text."""
        return view_of(self._width, self._top, self._text)

    def __len__(self):
        return len(self._text)

    def __getitem__(self, at):
        if not is_state(at, len(self._text)):
            raise BadPlace(at)
        return self._text[at]

    def __iter__(self):
        raise TypeError("a kept text is not iterated over")

    def _check_place(self, place):
        if not is_state(place, len(self._text) + 1):
            raise BadPlace(place)

    def _change(self, text):
        """Does a deed; the text ahead of it is kept."""
        self._earlier.append(self._text)
        self._text = text

    def put(self, place, text):
        """Puts a text in at a place."""
        self._check_place(place)
        if not is_text(self._letters, text):
            raise BadText(text)
        self._change(self._text[:place] + text + self._text[place:])

    def cut(self, start, stop):
        """Takes out the letters between two places and returns them."""
        self._check_place(start)
        self._check_place(stop)
        if stop < start:
            raise BadPlace(stop)
        taken = self._text[start:stop]
        self._change(self._text[:start] + self._text[stop:])
        return taken

    def undo(self):
        """Takes back the last deed that is not taken back."""
        if len(self._earlier) == 0:
            raise NothingToUndo()
        self._text = self._earlier.pop()
