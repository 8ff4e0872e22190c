"""Judges that know which pieces occur."""

from piecesseen.actions import actions_of, differing, one_by_one
from piecesseen.errors import NoJudge
from piecesseen.pairs import texts_to_states
from piecesseen.words import words_led


def loops_at(letters, rows, word, places):
    """Where the loops at a word that come to it only once more lead the places, some states."""
    waiting = [(word, places)]
    seen = {}
    loops = []
    at = 0
    while at < len(waiting):
        here, states = waiting[at]
        for number, letter in enumerate(letters):
            found = ((here + letter)[1:], tuple([rows[state][number] for state in states]))
            if found not in seen:
                seen[found] = True
                if found[0] == word:
                    loops.append(found[1])
                else:
                    waiting.append(found)
        at += 1
    return loops


def agree(one, other):
    """Whether two maps of places, each a dict, come to the same, whichever is done first."""
    return all([one[other[place]] == other[one[place]] for place in one])


def is_doubled(loop):
    """Whether a map of places, a dict, done twice is the same as done once."""
    return all([loop[place] == place for place in loop.values()])


def is_occurring(language, width):
    """Whether a language is judged by occurrences with k."""
    letters, rows = language.letters, language.rows
    for word, states in words_led(letters, rows, width - 1).items():
        places = tuple(sorted(set(states)))
        # All loops at the word consist of these. If these agree and are the same when done twice, so are all.
        loops = [dict(zip(places, loop)) for loop in loops_at(letters, rows, word, places)]
        if not all([is_doubled(loop) for loop in loops]):
            return False
        if not all([agree(loop, other) for at, loop in enumerate(loops) for other in loops[:at]]):
            return False
    return True


def paper_around(language, texts, text, inner):
    """A paper with a text whose action is around all inner actions, or None; `inner` has for each of them a text."""
    for one, s in inner.items():
        twice = one_by_one(one, one)
        if twice != one:
            x, y = differing(language, texts, one, twice)
            return "again", x, text, s, y
    for one, s in inner.items():
        for other, t in inner.items():
            both = one_by_one(one, other)
            swapped = one_by_one(other, one)
            if both != swapped:
                x, y = differing(language, texts, both, swapped)
                return "order", x, text, s, t, y
    return None


def paper_against(language):
    """A paper that a language is not judged by occurrences, or None if it is."""
    actions = actions_of(language.letters, language.rows)
    texts = texts_to_states(language.letters, language.rows)
    for around, text in actions.items():
        if one_by_one(around, around) == around:
            inner = {}
            for action, s in actions.items():
                inner.setdefault(one_by_one(one_by_one(around, action), around), s)
            paper = paper_around(language, texts, text, inner)
            if paper is not None:
                return paper
    return None


def least_occurring(language):
    """The least k with which a language is judged by occurrences."""
    paper = paper_against(language)
    if paper is not None:
        raise NoJudge(paper)
    width = 1
    while not is_occurring(language, width):
        width += 1
    return width
