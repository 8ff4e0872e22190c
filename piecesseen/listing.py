"""The texts of a machine with a given number of letters, one after the other.

`alive[left]` tells for each state whether some text of `left` letters leads from it to an end.
So no way is begun that does not come to an end, and each text is found at once.
"""


def alive_ahead(rows, alive):
    """For each state whether some letter leads from it to a state that is alive."""
    return [any([alive[target] for target in row]) for row in rows]


def next_alive(row, alive, start):
    """The first index, from start on, of a target that is alive, or None."""
    for at in range(start, len(row)):
        if alive[row[at]]:
            return at
    return None


def first_ahead(letters, rows, alive, state, length):
    """The first text of so many letters that leads from a state to an end; there must be one."""
    signs = []
    for left in reversed(range(length)):
        at = next_alive(rows[state], alive[left], 0)
        signs.append(letters[at])
        state = rows[state][at]
    return "".join(signs)


def states_along(letters, rows, text):
    """The states to which the beginnings of a text lead from state 0, the shortest one first."""
    states = [0]
    for letter in text:
        states.append(rows[states[-1]][letters.index(letter)])
    return states


def text_after(letters, rows, alive, text):
    """The next text with as many letters that leads from state 0 to an end, or None."""
    states = states_along(letters, rows, text)
    for place in reversed(range(len(text))):
        left = len(text) - place - 1
        row = rows[states[place]]
        at = next_alive(row, alive[left], letters.index(text[place]) + 1)
        if at is not None:
            return text[:place] + letters[at] + first_ahead(letters, rows, alive, row[at], left)
    return None
