"""What judges cannot tell: the least language around a language, the greatest one within it, and common views."""

from piecesseen.errors import OtherLetters
from piecesseen.languages import Language
from piecesseen.machines import end_flags, side_by_side
from piecesseen.views import view_behind


def view_rows(letters, width, top):
    """The rows of a machine whose states are the views of texts over the letters, the view of the empty text first."""
    waiting = [("short", "")]
    numbers = {("short", ""): 0}
    rows = []
    at = 0
    while at < len(waiting):
        row = []
        for letter in letters:
            found = view_behind(width, top, waiting[at], letter)
            if found not in numbers:
                numbers[found] = len(waiting)
                waiting.append(found)
            row.append(numbers[found])
        rows.append(tuple(row))
        at += 1
    return tuple(rows)


def views_in(language, rows):
    """(places, both): for each view of texts of a language, by its number, a state of a machine; and its rows.

    The machine runs the views and the language side by side: the texts that lead to the state are in the language and
    have this view.
    """
    both, pairs = side_by_side(rows, language.rows)
    flags = end_flags(len(language.rows), language.ends)
    places = {}
    for place, (view, state) in enumerate(pairs):
        if flags[state]:
            places.setdefault(view, place)
    return places, both


def shadow(language, width, top=1):
    """The language of all texts with the view of some text of a language."""
    rows = view_rows(language.letters, width, top)
    places, _ = views_in(language, rows)
    return Language(language.letters, rows, tuple([view for view in range(len(rows)) if view in places]))


def core(language, width, top=1):
    """The language of all texts such that each text with the same view is in a language."""
    return ~shadow(~language, width, top)


def first_text_to(letters, rows, goal):
    """The first text that leads from state 0 to a state, for states in the order of their first texts."""
    steps = {}
    for state, row in enumerate(rows):
        for letter, target in zip(letters, row):
            steps.setdefault(target, (state, letter))
    signs = []
    while goal != 0:
        goal, letter = steps[goal]
        signs.append(letter)
    return "".join(signs[::-1])


def common_view(one, other, width, top=1):
    """A text of one language and a text of another one with the same view, or None if there are none."""
    if one.letters != other.letters:
        raise OtherLetters()
    rows = view_rows(one.letters, width, top)
    places, both = views_in(one, rows)
    other_places, other_both = views_in(other, rows)
    for view, place in places.items():
        if view in other_places:
            return first_text_to(one.letters, both, place), first_text_to(one.letters, other_both, other_places[view])
    return None
