"""Whether a language is judged by counts at all, found by its actions, and with which numbers."""

from piecesseen.actions import actions_of, differing, one_by_one
from piecesseen.pairs import texts_to_states
from piecesseen.rounds import rounds_done
from piecesseen.tallies import table_by_walk


def product_table(actions):
    """For each two actions, by their numbers, the number of the action that does one and then the other."""
    numbers = {action: number for number, action in enumerate(actions)}
    places = {text: number for number, text in enumerate(actions.values())}
    single = {text: action for action, text in actions.items() if len(text) == 1}
    behind = [{letter: numbers[one_by_one(action, other)] for letter, other in single.items()} for action in actions]
    # The text of an action without its last letter is the text of an earlier one.
    ways = [(places.get(text[:-1]), text[-1]) for text in places]
    table = []
    for number in range(len(behind)):
        row = []
        for ahead, letter in ways:
            row.append(behind[number if ahead is None else row[ahead]][letter])
        table.append(row)
    return table


def power_paper(language, actions, table, texts):
    """A paper "power" that a language is not judged by counts, or None if each action has a power equal to the next."""
    by_number = list(actions)
    for number, s in enumerate(actions.values()):
        power = number
        times = 1
        # With as many times as there are states, the way from each state has come round.
        while times < len(language.rows):
            power = table[power][power]
            times = 2 * times
        longer = table[power][number]
        if longer != power:
            x, y = differing(language, texts, by_number[power], by_number[longer])
            return "power", x, s, y
    return None


def product_of(table, numbers):
    """The number of the action that does several ones, by their numbers, one after the other."""
    total = numbers[0]
    for number in numbers[1:]:
        total = table[total][number]
    return total


def inner_between(table, one, other):
    """For each action that is an action between two others, by their numbers, the first number of one in the middle."""
    inner = {}
    for middle in range(len(table)):
        inner.setdefault(table[table[one][middle]][other], middle)
    return inner


def exchanged(table, e, f):
    """Numbers (s, t, u) such that e, s, f, t, e, u, f is another action than e, u, f, t, e, s, f, or None."""
    ways = inner_between(table, e, f)
    for back, t in inner_between(table, f, e).items():
        for way, s in ways.items():
            there = table[table[way][back]]
            for other, u in ways.items():
                if there[other] != table[table[other][back]][way]:
                    return s, t, u
    return None


def exchange_paper(language, actions, table, texts):
    """A paper "exchange" that a language is not judged by counts, or None if there is none."""
    numbers = [number for number in range(len(table)) if table[number][number] == number]
    by_number = list(actions)
    for e in numbers:
        for f in numbers:
            found = exchanged(table, e, f)
            if found is not None:
                s, t, u = found
                one = by_number[product_of(table, (e, s, f, t, e, u, f))]
                other = by_number[product_of(table, (e, u, f, t, e, s, f))]
                x, y = differing(language, texts, one, other)
                words = [actions[by_number[number]] for number in (e, s, f, t, u)]
                return ("exchange", x, *words, y)
    return None


def paper_against_counts(language):
    """A paper that a language is not judged by counts with any numbers, or None if it is with some."""
    actions = actions_of(language.letters, language.rows)
    table = product_table(actions)
    texts = texts_to_states(language.letters, language.rows)
    paper = power_paper(language, actions, table, texts)
    if paper is not None:
        return paper
    return exchange_paper(language, actions, table, texts)


def counting_paper(language):
    """A paper with a table, for a language that is judged by counts: with the least k, and the least t for this k."""
    width = 1
    while True:
        times = rounds_done(language, width)
        if times is not None:
            for top in range(times if times > 0 else 1, times + 2):
                table = table_by_walk(language, width, top)
                if table is not None:
                    return "counting", width, top, table
        width += 1
