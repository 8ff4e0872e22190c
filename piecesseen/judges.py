"""Judges that answer by views, and streams of letters that they read one by one."""

from piecesseen.counting import table_of
from piecesseen.errors import BadText, BadView, NothingToUndo
from piecesseen.languages import is_text
from piecesseen.machines import end_flags
from piecesseen.views import has_view_form, is_word, view_behind, view_of


class Judge:
    """Somebody who tells by the view of a text with (k, t) alone whether it is in a language."""

    def __init__(self, language, width, top=1):
        flags = end_flags(len(language.rows), language.ends)
        self._answers = {view: flags[state] for view, state in table_of(language, width, top)}
        self.language = language
        self.width = width
        self.top = top

    def __call__(self, text):
        if not is_text(self.language.letters, text):
            raise BadText(text)
        return self._answers[view_of(self.width, self.top, text)]

    def at(self, view):
        """The answer for a view."""
        # Only what is made like a view is looked up: other values are perhaps no keys, or equal to one, as True to 1.
        if not has_view_form(self.language.letters, self.width, self.top, view) or view not in self._answers:
            raise BadView(view)
        return self._answers[view]


class Stream:
    """A text that a judge reads letter by letter; behind each letter the view and the answer are kept."""

    def __init__(self, judge):
        start = ("short", "")
        self._judge = judge
        self._letters = []
        self._views = [start]
        self._answers = [judge.at(start)]

    @property
    def view(self):
        """The view of what was seen."""
        return self._views[-1]

    @property
    def answer(self):
        """Whether what was seen is in the language."""
        return self._answers[-1]

    @property
    def length(self):
        """How many letters were seen."""
        return len(self._letters)

    def saw(self, letter):
        """Sees one more letter."""
        judge = self._judge
        if not is_word(judge.language.letters, 1, letter):
            raise BadText(letter)
        view = view_behind(judge.width, judge.top, self._views[-1], letter)
        self._letters.append(letter)
        self._views.append(view)
        self._answers.append(judge.at(view))

    def back(self):
        """Takes back the last letter and returns it."""
        if len(self._letters) == 0:
            raise NothingToUndo()
        self._views.pop()
        self._answers.pop()
        return self._letters.pop()

    def followed(self, other):
        """A new stream that has seen the letters of this one and then those of the other one."""
        both = Stream(self._judge)
        letters = self._letters + other._letters
        for letter in letters:
            both.saw(letter)
        return both
