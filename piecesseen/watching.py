"""The fewest pieces that must be watched."""

from piecesseen.counting import pair_of, seen_part, states_of_views, table_of
from piecesseen.forbidding import is_words
from piecesseen.languages import is_text
from piecesseen.views import view_of
from piecesseen.words import tuples_of, words_of


def is_enough(language, width, top, pieces):
    """Whether an ascending tuple of words of k letters is enough for a language."""
    _, clash = states_of_views(language, width, top, pieces)
    return clash is None


def fewest_watched(language, width, top):
    """A watching paper: fewest pieces that are enough, and for each smaller tuple two texts against it."""
    # This raises Unjudged unless all pieces together are enough.
    table_of(language, width, top)
    words = words_of(language.letters, width)
    shown = []
    many = 0
    while True:
        found = []
        for others in tuples_of(words, many):
            _, clash = states_of_views(language, width, top, others)
            if clash is None:
                return others, tuple(shown)
            text, other = pair_of(language, clash)
            found.append((others, text, other))
        shown = found
        many += 1


def watched_view(width, top, text, watched):
    """The view of a text in which only the watched pieces are counted."""
    return seen_part(view_of(width, top, text), watched)


def is_shown(language, width, top, others, thing):
    """Whether any value is (others, text, other) with two texts against these other pieces."""
    if not isinstance(thing, tuple) or len(thing) != 3 or thing[0] != others:
        return False
    _, text, other = thing
    # Whatever is in the language is a text over its letters.
    if text not in language or not is_text(language.letters, other) or other in language:
        return False
    return watched_view(width, top, text, others) == watched_view(width, top, other, others)


def watching_holds(language, width, top, thing):
    """Whether any value is a watching paper."""
    if not isinstance(thing, tuple) or len(thing) != 2 or not is_words(language.letters, width, thing[0]):
        return False
    pieces, shown = thing
    smaller = tuples_of(words_of(language.letters, width), len(pieces) - 1) if pieces else []
    if not isinstance(shown, tuple) or len(shown) != len(smaller):
        return False
    if not all([is_shown(language, width, top, others, item) for others, item in zip(smaller, shown)]):
        return False
    return is_enough(language, width, top, pieces)
