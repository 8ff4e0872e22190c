"""Walks through all views with (k, t), with a number in the place of each view: that takes a small part of the time.

The words of k - 1 letters are numbered, ascending, and so are those of k letters. The number of a view has a digit for
each piece, its places, and below these digits the numbers of the first and the last k - 1 letters. A text of k - 1
letters has such a number, too, though its view is a short one: all its digits are 0.
"""

from piecesseen.words import words_led, words_of


def moves_of(many, size, top):
    """For each word of k - 1 letters a move for each letter behind it: (unit, onward).

    The unit is one place more of the piece that this letter ends; onward is added for the new last letters.
    """
    moves = []
    unit = size * size
    for word in range(size):
        row = []
        for piece in range(word * many, (word + 1) * many):
            row.append((unit, piece % size - word))
            unit = unit * (top + 1)
        moves.append(row)
    return moves


def states_by_number(language, width, top):
    """The state of each text of k - 1 letters or more, by the number of its view; None if some view has two states."""
    rows = language.rows
    words = words_led(language.letters, rows, width - 1)
    size = len(words)
    moves = moves_of(len(language.letters), size, top)
    states = {number * size + number: led[0] for number, led in enumerate(words.values())}
    level = list(states)
    while level:
        longer = []
        for view in level:
            row = rows[states[view]]
            for (unit, onward), target in zip(moves[view % size], row):
                found = view + onward
                if view // unit % (top + 1) < top:
                    found += unit
                if found not in states:
                    states[found] = target
                    longer.append(found)
                elif states[found] != target:
                    return None
        level = longer
    return states


def counts_in(digits, pieces, top):
    """(counts, rank) for the digits of the pieces: views with the same first and last letters stand in order of ranks.

    A view in which a piece stands is ahead of one in which only later ones do, and behind one without any later ones.
    """
    counts = []
    rank = 0
    for piece in pieces:
        digits, number = divmod(digits, top + 1)
        if number > 0:
            counts.append((piece, number))
        elif digits > 0:
            number = top + 1
        rank = rank * (top + 2) + number
    return tuple(counts), rank


def long_entries(language, width, top, states):
    """The pairs of a table with long views, ascending, by the states that a walk has found."""
    words = words_of(language.letters, width - 1)
    pieces = words_of(language.letters, width)
    size = len(words)
    span = 1
    for _ in pieces:
        span = span * (top + 2)
    entries = {}
    known = {}
    for view, state in states.items():
        digits, ends = divmod(view, size * size)
        if digits > 0:
            if digits not in known:
                known[digits] = counts_in(digits, pieces, top)
            counts, rank = known[digits]
            entries[ends * span + rank] = (("long", words[ends // size], words[ends % size], counts), state)
    return [entries[place] for place in sorted(set(entries))]


def short_entries(language, width):
    """The pairs of a table with short views, ascending."""
    states = {}
    for length in range(width):
        for word, led in words_led(language.letters, language.rows, length).items():
            states[word] = led[0]
    return [(("short", word), states[word]) for word in sorted(set(states))]


def table_by_walk(language, width, top):
    """The table of a language with (k, t), or None if some view has two states."""
    states = states_by_number(language, width, top)
    if states is None:
        return None
    return tuple(long_entries(language, width, top, states) + short_entries(language, width))
