"""Where texts lead in which a word is repeated n times, whatever n is.

The powers of a word lead from a state along a path that comes round at last: `(path, back)` has the states on the way,
each once, and the place of the one that comes behind the last one.
"""

from math import lcm

from piecesseen.machines import state_behind


def lead_of(language, word):
    """For each state of the least machine the state to which a word leads."""
    return tuple([state_behind(language.letters, language.rows, state, word) for state in range(len(language.rows))])


def path_from(lead, state):
    """(path, back) of the powers of a word from a state, by what the word leads to."""
    places = {}
    path = []
    while state not in places:
        places[state] = len(path)
        path.append(state)
        state = lead[state]
    return path, places[state]


def paths_of(lead):
    """For each state (path, back) of the powers of a word."""
    return [path_from(lead, state) for state in range(len(lead))]


def at_power(paths, state, many):
    """The state to which a power of a word leads from a state."""
    path, back = paths[state]
    if many < len(path):
        return path[many]
    return path[back + (many - back) % (len(path) - back)]


def round_of(tables):
    """(first, period): for several words and all states, the powers from first on come round with this period."""
    first = 0
    period = 1
    for paths in tables:
        for path, back in paths:
            first = back if back > first else first
            period = lcm(period, len(path) - back)
    return first, period
