"""Judges that forbid pieces."""

from piecesseen.errors import NoJudge
from piecesseen.languages import Language, is_text
from piecesseen.machines import end_flags, is_dead
from piecesseen.pairs import answered, texts_to_states, ways_from
from piecesseen.values import is_ascending, is_whole
from piecesseen.views import is_word, view_of
from piecesseen.words import words_led


def is_words(letters, length, thing):
    """Whether any value is an ascending tuple of texts of so many letters."""
    return isinstance(thing, tuple) and all([is_word(letters, length, word) for word in thing]) and is_ascending(thing)


def is_shorter_ones(letters, width, thing):
    """Whether any value is a tuple of texts of fewer letters, in order, without duplicates."""
    if not isinstance(thing, tuple) or not all([is_text(letters, text) for text in thing]):
        return False
    return all([len(text) < width for text in thing]) and is_ascending([(len(text), text) for text in thing])


def is_judge(letters, thing):
    """Whether any value is a forbidding judge of texts over the letters."""
    if not isinstance(thing, tuple) or len(thing) != 5:
        return False
    width, short, firsts, lasts, pieces = thing
    if not is_whole(width) or width < 1 or not is_shorter_ones(letters, width, short):
        return False
    return (is_words(letters, width - 1, firsts) and is_words(letters, width - 1, lasts)
            and is_words(letters, width, pieces))


def accepts(judge, text):
    """Whether a judge accepts a text."""
    width, short, firsts, lasts, pieces = judge
    if len(text) < width:
        return text in short
    known = {piece: True for piece in pieces}
    _, first, last, pairs = view_of(width, 1, text)
    return first in firsts and last in lasts and all([pair[0] in known for pair in pairs])


def state_at(steps, text):
    """The state to which a text leads from state 0; steps that are missing on its way are made."""
    state = 0
    for letter in text:
        if letter not in steps[state]:
            steps[state][letter] = len(steps)
            steps.append({})
        state = steps[state][letter]
    return state


def piece_states(steps, pieces):
    """Makes a state for each beginning and each end of a piece, with a step for each piece; tells their numbers."""
    numbers = {}
    for piece in pieces:
        for word in (piece[:-1], piece[1:]):
            if word not in numbers:
                numbers[word] = len(steps)
                steps.append({})
        steps[numbers[piece[:-1]]][piece[-1]] = numbers[piece[1:]]
    return numbers


def language_of(letters, judge):
    """The language of the texts over the letters that a judge accepts."""
    _, short, firsts, lasts, pieces = judge
    # The states are texts of fewer than k letters, made only as far as they are needed since k may be of any size,
    # and the last k - 1 letters of longer texts.
    steps = [{}]
    short_ends = [state_at(steps, text) for text in short]
    first_states = [state_at(steps, first) for first in firsts]
    numbers = piece_states(steps, pieces)
    for state, first in zip(first_states, firsts):
        if first in numbers:
            steps[state] = steps[numbers[first]]
    ends = sorted(set(short_ends + [numbers[last] for last in lasts if last in numbers]))
    dead = len(steps)
    rows = [tuple([step.get(letter, dead) for letter in letters]) for step in steps]
    rows.append((dead,) * len(letters))
    return Language(letters, tuple(rows), tuple(ends))


def learned(width, *texts):
    """The least forbidding judge of some texts."""
    found = [view_of(width, 1, text) for text in sorted(set(texts))]
    shorter = [view[1] for view in found if view[0] == "short"]
    others = [view for view in found if view[0] == "long"]
    firsts = sorted(set([view[1] for view in others]))
    lasts = sorted(set([view[2] for view in others]))
    pieces = sorted(set([pair[0] for view in others for pair in view[3]]))
    return width, tuple(sorted(shorter, key=len)), tuple(firsts), tuple(lasts), tuple(pieces)


def shorter_texts(language, width):
    """The texts of a language with fewer letters, in order."""
    shorter = []
    for text in language.in_order():
        if len(text) >= width:
            break
        shorter.append(text)
    return shorter


def judge_of(language, width):
    """The least forbidding judge of all texts of a language."""
    letters, rows = language.letters, language.rows
    flags = end_flags(len(rows), language.ends)
    alive = [not is_dead(rows, language.ends, state) for state in range(len(rows))]
    goes_on = [any([alive[target] for target in row]) for row in rows]
    # Ahead of the last letters there must be some letter, and behind the first ones likewise: the text has k letters.
    behind_some = sorted(set([target for row in rows for target in row]))
    led = words_led(letters, rows, width - 1)
    firsts = [word for word, states in led.items() if goes_on[states[0]]]
    lasts = [word for word, states in led.items() if any([flags[states[state]] for state in behind_some])]
    longer = words_led(letters, rows, width)
    pieces = [word for word, states in longer.items() if any([alive[state] for state in states])]
    return width, tuple(shorter_texts(language, width)), tuple(firsts), tuple(lasts), tuple(pieces)


def splice_of(language):
    """A paper that a language is not judged by forbidding, or None if it is.

    There is one exactly if some text leads two states back to themselves of which the first one leads to an end, and
    the other one to an end by a text by which the first one does not.
    """
    letters, rows = language.letters, language.rows
    flags = end_flags(len(rows), language.ends)
    texts = texts_to_states(letters, rows)
    for one, text in enumerate(texts):
        for other, other_text in enumerate(texts):
            ways = ways_from(letters, rows, (one, other))
            ended = answered((one, other), ways, flags, ((True, True), (True, False)))
            other_ended = answered((one, other), ways, flags, ((False, True),))
            if (one, other) in ways and ended is not None and other_ended is not None:
                return "splice", text, ended, other_text, other_ended, ways[(one, other)]
    return None


def least_forbidding(language):
    """The least k with which a language is judged by forbidding."""
    paper = splice_of(language)
    if paper is not None:
        raise NoJudge(paper)
    width = 1
    while language_of(language.letters, judge_of(language, width)) != language:
        width += 1
    return width
