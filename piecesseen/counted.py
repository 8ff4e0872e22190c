"""Whether a language is judged by counts with some numbers, found by its actions, and such numbers."""

from piecesseen.actions import actions_of, differing, one_by_one
from piecesseen.counting import is_counting, table_of
from piecesseen.pairs import texts_to_states

# For each number of letters, k with the greatest t from 1 to 20 for which there are at most 5,000 views.
NUMBERS = {1: ((1, 20),), 2: ((1, 20), (2, 9), (3, 2)), 3: ((1, 16), (2, 1)), 4: ((1, 7),)}


def power_paper(language, actions, texts):
    """A paper "power" that a language is not judged by counts, or None if each action has a power equal to the next."""
    for action, s in actions.items():
        power = action
        # With as many powers as there are states, the way from each state has come round.
        for _ in range(len(language.rows)):
            power = one_by_one(power, action)
        longer = one_by_one(power, action)
        if longer != power:
            x, y = differing(language, texts, power, longer)
            return "power", x, s, y
    return None


def product_table(actions):
    """For each two actions, by their numbers, the number of the action that does one and then the other."""
    numbers = {action: number for number, action in enumerate(actions)}
    return [[numbers[one_by_one(action, other)] for other in actions] for action in actions]


def product_of(table, numbers):
    """The number of the action that does several ones, by their numbers, one after the other."""
    total = numbers[0]
    for number in numbers[1:]:
        total = table[total][number]
    return total


def inner_between(table, one, other):
    """For each action that is an action between two others, by their numbers, the first number of one in the middle."""
    inner = {}
    for middle in range(len(table)):
        inner.setdefault(table[table[one][middle]][other], middle)
    return inner


def exchanged(table, e, f):
    """Numbers (s, t, u) such that e, s, f, t, e, u, f is another action than e, u, f, t, e, s, f, or None."""
    ways = inner_between(table, e, f)
    for back, t in inner_between(table, f, e).items():
        for way, s in ways.items():
            there = table[table[way][back]]
            for other, u in ways.items():
                if there[other] != table[table[other][back]][way]:
                    return s, t, u
    return None


def exchange_paper(language, actions, texts):
    """A paper "exchange" that a language is not judged by counts, or None if there is none."""
    table = product_table(actions)
    numbers = [number for number in range(len(table)) if table[number][number] == number]
    by_number = list(actions)
    for e in numbers:
        for f in numbers:
            found = exchanged(table, e, f)
            if found is not None:
                s, t, u = found
                one = by_number[product_of(table, (e, s, f, t, e, u, f))]
                other = by_number[product_of(table, (e, u, f, t, e, s, f))]
                x, y = differing(language, texts, one, other)
                words = [actions[by_number[number]] for number in (e, s, f, t, u)]
                return ("exchange", x, *words, y)
    return None


def paper_against_counts(language):
    """A paper that a language is not judged by counts with any numbers, or None if it is with some."""
    actions = actions_of(language.letters, language.rows)
    texts = texts_to_states(language.letters, language.rows)
    paper = power_paper(language, actions, texts)
    if paper is not None:
        return paper
    return exchange_paper(language, actions, texts)


def numbers_tried(letters):
    """Yields pairs of k and t. A language that is judged by counts is so with some of them, mostly one of the first."""
    for width, top in NUMBERS[len(letters)]:
        yield width, top
    total = 2
    while True:
        for width in range(1, total):
            yield width, total - width
        total += 1


def counting_paper(language):
    """A paper with a table, for a language that is judged by counts with some numbers: with the least t for its k."""
    for width, most in numbers_tried(language.letters):
        if is_counting(language, width, most):
            top = 1
            while not is_counting(language, width, top):
                top += 1
            return "counting", width, top, table_of(language, width, top)
    return None
