"""Judges that count pieces."""

from piecesseen.errors import Unjudged
from piecesseen.pairs import telling_apart
from piecesseen.tallies import states_by_number, table_by_walk
from piecesseen.views import view_behind


def seen_part(view, watched):
    """What is seen of a view if only the watched pieces are counted; all are if `watched` is None."""
    if watched is None or view[0] == "short":
        return view
    return view[:3] + (tuple([pair for pair in view[3] if pair[0] in watched]),)


def states_of_views(language, width, top, watched=None):
    """(states, clash): the state of each view, and None, or two texts with one view and the two states of these texts.

    A clash ends the search. Without one the state of each text is told by its view, letter by letter.
    Views are taken with the watched pieces alone, or whole if `watched` is None.
    """
    waiting = [("short", "")]
    texts = {("short", ""): ""}
    states = {("short", ""): 0}
    at = 0
    while at < len(waiting):
        view = waiting[at]
        row = language.rows[states[view]]
        for letter, target in zip(language.letters, row):
            found = seen_part(view_behind(width, top, view, letter), watched)
            text = texts[view] + letter
            if found not in states:
                states[found] = target
                texts[found] = text
                waiting.append(found)
            elif states[found] != target:
                return states, (texts[found], text, states[found], target)
        at += 1
    return states, None


def pair_of(language, clash):
    """Two texts with the same view, the first one in the language, the second one not, from a clash."""
    text, other, state, other_state = clash
    end = telling_apart(language, state, other_state)
    if text + end in language:
        return text + end, other + end
    return other + end, text + end


def is_counting(language, width, top):
    """Whether a language is judged by counts with (k, t)."""
    return states_by_number(language, width, top) is not None


def table_of(language, width, top):
    """The table with the state of each view with (k, t)."""
    table = table_by_walk(language, width, top)
    if table is None:
        _, clash = states_of_views(language, width, top)
        raise Unjudged(pair_of(language, clash))
    return table


def corners(language, most_width, most_top):
    """The pairs (k, t) up to these numbers with which a language is judged by counts, but with none that is less."""
    found = []
    top = most_top
    for width in range(1, most_width + 1):
        least = None
        # With a greater k it is judged with each t with which it was; so only smaller ones are still asked for.
        while top >= 1 and is_counting(language, width, top):
            least = top
            top -= 1
        if least is not None:
            found.append((width, least))
    return tuple(found)
