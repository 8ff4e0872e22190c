"""Whether any value is a table that a language is judged by counts."""

from piecesseen.machines import is_state
from piecesseen.values import is_ascending
from piecesseen.views import has_view_form, view_behind


def is_entry(language, width, top, thing):
    """Whether any value is a pair of what is made like a view, and a state of the least machine."""
    if not isinstance(thing, tuple) or len(thing) != 2 or not is_state(thing[1], len(language.rows)):
        return False
    return has_view_form(language.letters, width, top, thing[0])


def is_table_form(language, width, top, thing):
    """Whether any value is an ascending tuple of such pairs, no two with the same view."""
    if not isinstance(thing, tuple) or not all([is_entry(language, width, top, pair) for pair in thing]):
        return False
    return is_ascending([pair[0] for pair in thing])


def table_holds(language, width, top, thing):
    """Whether any value is the table of a language that is judged by counts with (k, t), both of any size."""
    if not is_table_form(language, width, top, thing):
        return False
    states = {view: state for view, state in thing}
    if states.get(("short", "")) != 0:
        return False
    waiting = [("short", "")]
    seen = {("short", ""): True}
    at = 0
    while at < len(waiting):
        view = waiting[at]
        for letter, target in zip(language.letters, language.rows[states[view]]):
            found = view_behind(width, top, view, letter)
            if states.get(found) != target:
                return False
            if found not in seen:
                seen[found] = True
                waiting.append(found)
        at += 1
    # All views are in the table; whatever else is in it is the view of no text.
    return len(waiting) == len(thing)
