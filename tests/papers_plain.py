"""Plain Python beside papers: their texts written out, the three kinds by actions, and papers by any hands."""

import functools
import math
import random

from judged import actions, drawn_judges, plain_is_judge, plain_states, words
from piecesseen.counting import is_counting
from piecesseen.forbidding import judge_of, language_of
from piecesseen.languages import Language
from piecesseen.occurring import is_occurring
from plain import run

KINDS = ("forbidding", "occurring", "counting")
AGAINST = {"splice": "forbidding", "again": "occurring", "order": "occurring", "power": "counting",
           "exchange": "counting"}
WORDS = {"splice": 5, "again": 4, "order": 5, "power": 3, "exchange": 7}
# The greatest k with which languages of the first two kinds must be judged.
WIDEST = {1: 8, 2: 6, 3: 3, 4: 3}
# k and t with at most 5,000 views; with greater ones there are more.
MOST = {1: [(1, 20), (8, 20)], 2: [(1, 20), (2, 9), (3, 2)], 3: [(1, 16), (2, 1)], 4: [(1, 7)]}


def texts_for(paper, n):
    """The texts of a paper for n."""
    sort, *parts = paper
    if sort == "splice":
        x, y, z, w, e = parts
        return x + e * n + y, z + e * n + w, x + e * n + w
    if sort == "again":
        x, e, s, y = parts
        return x + e * n + s + e * n + y, x + e * n + s + e * n + s + e * n + y
    if sort == "order":
        x, e, s, t, y = parts
        return x + e * n + s + e * n + t + e * n + y, x + e * n + t + e * n + s + e * n + y
    if sort == "power":
        x, s, y = parts
        return x + s * n + y, x + s * (n + 1) + y
    x, e, s, f, t, u, y = parts
    return (x + e * n + s + f * n + t + e * n + u + f * n + y, x + e * n + u + f * n + t + e * n + s + f * n + y)


def are_twins(language, paper, n):
    """Whether the texts of a paper for n are answered as point 8 says."""
    answers = [text in language for text in texts_for(paper, n)]
    return answers == [True, True, False] if paper[0] == "splice" else answers[0] != answers[1]


def powers_in(paper):
    """The words of a paper that have powers."""
    places = {"splice": (5,), "again": (2,), "order": (2,), "power": (2,), "exchange": (2, 4)}
    return [paper[place] for place in places[paper[0]]]


def round_of(language, text):
    """(start, stop) such that the powers of a text from start on lead as those from stop on do, for every state."""
    lead = tuple(run(language.letters, language.rows, state, text) for state in range(len(language)))
    power = tuple(range(len(language)))
    seen = {}
    while power not in seen:
        seen[power] = len(seen)
        power = tuple(lead[state] for state in power)
    return seen[power], len(seen)


def rounds_of(language, paper):
    """(start, stop) likewise for all words with powers at once."""
    rounds = [round_of(language, text) for text in powers_in(paper)]
    first = max(start for start, _ in rounds)
    return first, first + math.lcm(*[stop - start for start, stop in rounds])


def has_form(letters, thing):
    """Whether a value is made like a paper against some kind."""
    if thing.__class__ is not tuple or not thing or thing[0].__class__ is not str or thing[0] not in WORDS:
        return False
    if len(thing) != WORDS[thing[0]] + 1 or any(word.__class__ is not str for word in thing):
        return False
    return all(set(word) <= set(letters) for word in thing[1:]) and "" not in powers_in(thing)


def is_paper(language, thing):
    """Whether a value is a paper that a language is not of the kind of this paper."""
    if not has_form(language.letters, thing):
        return False
    return any(are_twins(language, thing, n) for n in range(*rounds_of(language, thing)))


def plain_against(language, kind, thing):
    """Whether a value is a paper that a language is not of a kind."""
    return is_paper(language, thing) and AGAINST[thing[0]] == kind


def same(one, other):
    """Whether two values are equal, all their parts being of the same classes."""
    if one.__class__ is tuple and other.__class__ is tuple:
        return len(one) == len(other) and all(same(part, further) for part, further in zip(one, other))
    return one.__class__ is other.__class__ and one == other


def is_number(thing):
    return thing.__class__ is int and thing >= 1


def plain_table(language, width, top, most=10 ** 6):
    """The table of a language with (k, t), or None if there is none, or it has more pairs."""
    states = plain_states(language, width, top, most)
    return None if states is None else tuple(sorted(states.items()))


def plain_for(language, kind, thing):
    """Whether a value is a paper that a language is of a kind."""
    if thing.__class__ is not tuple or len(thing) < 2 or not same(thing[0], kind):
        return False
    if kind == "counting":
        if len(thing) != 4 or not is_number(thing[1]) or not is_number(thing[2]) or thing[3].__class__ is not tuple:
            return False
        table = plain_table(language, thing[1], thing[2], len(thing[3]))
        return table is not None and same(thing[3], table)
    if len(thing) != 2:
        return False
    if kind == "forbidding":
        return plain_is_judge(language.letters, thing[1]) and language_of(language.letters, thing[1]) == language
    if not is_number(thing[1]) or kind not in plain_kinds(language):
        return False
    return is_occurring(language, min(thing[1], WIDEST[len(language.letters)]))


def done(*steps):
    """The action that does several ones."""
    total = steps[0]
    for step in steps[1:]:
        total = tuple(step[state] for state in total)
    return total


def is_plainly_forbidding(language, every):
    """Whether no text leads two states to themselves of which only the other one goes on to an end in some way."""
    size = range(len(language))
    ahead = [tuple(size), *every]
    ends = [frozenset(way for way in ahead if way[state] in language.ends) for state in size]
    return not any(action[one] == one and action[other] == other and ends[one] and not ends[other] <= ends[one]
                   for action in every for one in size for other in size)


def is_plainly_occurring(doubled, every):
    """Whether all actions with one that is the same done twice around them commute, and are the same done twice."""
    for e in doubled:
        inner = {done(e, s, e) for s in every}
        if any(done(s, s) != s for s in inner) or any(done(s, t) != done(t, s) for s in inner for t in inner):
            return False
    return True


def is_plainly_counting(doubled, every, size):
    """Whether each action has a power equal to the next one, and what stands between two actions can be exchanged."""
    if any(done(*[s] * (size + 1)) != done(*[s] * size) for s in every):
        return False
    for e in doubled:
        for f in doubled:
            ways = {done(e, s, f) for s in every}
            backs = {done(f, t, e) for t in every}
            if any(done(s, t, u) != done(u, t, s) for s in ways for t in backs for u in ways):
                return False
    return True


def plain_kinds(language):
    """The kinds of a language, by its actions, as point 16 says."""
    return kinds_by_text(str(language))


@functools.cache
def kinds_by_text(text):
    """The kinds of the language with a text, found once for all tests."""
    language = Language.read(text)
    every = actions(language)
    doubled = [e for e in every if done(e, e) == e]
    told = (is_plainly_forbidding(language, every), is_plainly_occurring(doubled, every),
            is_plainly_counting(doubled, every, len(language)))
    return [kind for kind, answer in zip(KINDS, told) if answer]


def is_within(language, kind):
    """Whether a language may be asked about a kind as far as its numbers go, if it is of this kind."""
    return within_by_text(str(language), kind)


@functools.cache
def within_by_text(text, kind):
    """The same for the language with a text, found once for all tests."""
    language = Language.read(text)
    if kind not in plain_kinds(language):
        return True
    letters = len(language.letters)
    if kind == "forbidding":
        return language_of(language.letters, judge_of(language, WIDEST[letters])) == language
    if kind == "occurring":
        return is_occurring(language, WIDEST[letters])
    return any(is_counting(language, width, top) for width, top in MOST[letters])


def drawn_papers(letters, seed, many, longest=3):
    """Things made like papers, with any words."""
    chance = random.Random(seed)
    held = [word for length in range(longest + 1) for word in words(letters, length)]
    for _ in range(many):
        sort = chance.choice(list(WORDS))
        thing = (sort, *[chance.choice(held) for _ in range(WORDS[sort])])
        if "" not in powers_in(thing):
            yield thing


def judges_like(letters, seed, many):
    """Papers with any judges."""
    return [("forbidding", judge) for judge in drawn_judges(letters, seed, many)]
