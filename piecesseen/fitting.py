"""Whether a forbidding judge, whatever its size is, accepts exactly the texts of a language.

`alive` tells for each state of the least machine whether some text leads from it to an end.
"""

from piecesseen.machines import end_flags, is_dead, state_behind


def counts_ahead(rows, alive, counts):
    """How many texts with one letter more than those that are counted lead to each state that is alive."""
    longer = [0] * len(rows)
    for row, number in zip(rows, counts):
        for target in row:
            if alive[target]:
                longer[target] += number
    return longer


def start_counts(alive):
    """How many texts without a letter lead to each state that is alive."""
    return [int(alive[0])] + [0] * (len(alive) - 1)


def has_all_firsts(language, alive, width, firsts):
    """Whether all texts of a language with k letters or more begin with these words of k - 1 letters."""
    rows = language.rows
    goes_on = [any([alive[target] for target in row]) for row in rows]
    # Without such words k may be of any size. But if a language has a text with a letter for each state, it has some
    # with any more letters, too.
    length = width - 1 if firsts or width <= len(rows) else len(rows)
    counts = start_counts(alive)
    for _ in range(length):
        counts = counts_ahead(rows, alive, counts)
    needed = sum([number for number, flag in zip(counts, goes_on) if flag])
    return needed == len([word for word in firsts if goes_on[state_behind(language.letters, rows, 0, word)]])


def steps_of(pieces):
    """For each word with which a piece begins the word to which each letter leads."""
    steps = {}
    for piece in pieces:
        ahead = steps.setdefault(piece[:-1], {})
        ahead[piece[-1]] = piece[1:]
    return steps


def is_long_fit(language, alive, judge):
    """Whether a judge that knows all first letters answers rightly for all texts of k letters or more.

    Behind k letters its answers are told by the last k - 1 letters, so the state of the least machine must be, too.
    """
    _, _, firsts, lasts, pieces = judge
    rows = language.rows
    flags = end_flags(len(rows), language.ends)
    steps = steps_of(pieces)
    ended = {word: True for word in lasts}
    waiting = [(word, state_behind(language.letters, rows, 0, word)) for word in firsts]
    states = {}
    at = 0
    while at < len(waiting):
        word, state = waiting[at]
        ahead = steps.get(word, {})
        for letter, target in zip(language.letters, rows[state]):
            found = ahead.get(letter)
            if found is None:
                if alive[target]:
                    return False
            elif found not in states:
                if flags[target] != (found in ended):
                    return False
                states[found] = target
                waiting.append((found, target))
            elif states[found] != target:
                return False
        at += 1
    return True


def is_short_fit(language, alive, width, short):
    """Whether these are all texts of a language with fewer than k letters, if k is no great number or it is finite."""
    counts = start_counts(alive)
    total = 0
    length = 0
    while length < width and total <= len(short) and any([number > 0 for number in counts]):
        total += sum([counts[end] for end in language.ends])
        counts = counts_ahead(language.rows, alive, counts)
        length += 1
    return total == len(short) and all([text in language for text in short])


def fits(language, judge):
    """Whether a forbidding judge accepts exactly the texts of a language."""
    width, short, firsts, _, _ = judge
    alive = [not is_dead(language.rows, language.ends, state) for state in range(len(language.rows))]
    return (has_all_firsts(language, alive, width, firsts) and is_long_fit(language, alive, judge)
            and is_short_fit(language, alive, width, short))
