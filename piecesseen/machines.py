"""Machines as plain tuples: `rows` has the targets of each state, `ends` the states that are ends.

Operators of languages run these functions, so they change nothing but lists and dicts of their own.
"""

from piecesseen.values import is_ascending, is_whole


def is_state(thing, many):
    """Whether any value is one of so many states."""
    return is_whole(thing) and 0 <= thing < many


def is_row(thing, width, many):
    """Whether any value is a tuple of so many targets among so many states."""
    return isinstance(thing, tuple) and len(thing) == width and all([is_state(target, many) for target in thing])


def is_rows(thing, width):
    """Whether any value is the rows of a machine over so many letters."""
    return isinstance(thing, tuple) and len(thing) > 0 and all([is_row(row, width, len(thing)) for row in thing])


def is_ends(thing, many):
    """Whether any value is an ascending tuple of some of so many states."""
    return isinstance(thing, tuple) and all([is_state(end, many) for end in thing]) and is_ascending(thing)


def end_flags(many, ends):
    """For each of so many states whether it is an end."""
    flags = [False] * many
    for end in ends:
        flags[end] = True
    return flags


def is_dead(rows, ends, state):
    """Whether a state of a least machine is dead: there is only one such state, so it leads to itself alone."""
    return state not in ends and rows[state].count(state) == len(rows[state])


def state_behind(letters, rows, state, text):
    """The state to which a text leads from a state."""
    for letter in text:
        state = rows[state][letters.index(letter)]
    return state


def states_reached(rows, start):
    """The states to which texts lead from a state, in the order of their first texts."""
    order = [start]
    seen = {start: True}
    at = 0
    while at < len(order):
        state = order[at]
        for target in rows[state]:
            if target not in seen:
                seen[target] = True
                order.append(target)
        at += 1
    return order


def started_at(rows, ends, start):
    """(rows, ends) of the machine that begins in a state; all its states are reached."""
    order = states_reached(rows, start)
    numbers = {state: number for number, state in enumerate(order)}
    flags = end_flags(len(rows), ends)
    new_rows = tuple([tuple([numbers[target] for target in rows[state]]) for state in order])
    return new_rows, tuple([number for number, state in enumerate(order) if flags[state]])


def sources_of(rows, at):
    """For each state the states that the letter with this index leads to it."""
    found = [[] for row in rows]
    for state, row in enumerate(rows):
        found[row[at]].append(state)
    return found


def hits_of(sources, inside, classes):
    """The sources of some states, listed for each class that has any."""
    hits = {}
    for target in inside:
        for state in sources[target]:
            hits.setdefault(classes[state], []).append(state)
    return hits


def smaller_part(states, some):
    """Some of the states, or all others, whichever are fewer."""
    if 2 * len(some) <= len(states):
        return some
    left_out = {state: True for state in some}
    return [state for state in states if state not in left_out]


def classes_of(rows, ends):
    """The class of each state, a number: the same texts lead from the states of a class to ends.

    A class is split where a letter leads only some of its states into another class. The smaller
    part becomes the new class, and only this one has to split others, since together with the
    class that it came from it tells as much as both parts (Hopcroft's way to the least machine).
    """
    sources = [sources_of(rows, at) for at in range(len(rows[0]))]
    classes = [int(flag) for flag in end_flags(len(rows), ends)]
    members = {0: [state for state, found in enumerate(classes) if found == 0], 1: list(ends)}
    waiting = [0, 1]
    while waiting:
        inside = members[waiting.pop()]
        for known in sources:
            hits = hits_of(known, inside, classes)
            for old, hit in hits.items():
                if len(hit) < len(members[old]):
                    new = len(members)
                    part = smaller_part(members[old], hit)
                    for state in part:
                        classes[state] = new
                    members[new] = part
                    members[old] = [state for state in members[old] if classes[state] == old]
                    waiting.append(new)
    return classes


def least_machine(rows, ends):
    """(rows, ends) of the least machine with the language of a machine."""
    rows, ends = started_at(rows, ends, 0)
    classes = classes_of(rows, ends)
    # The states stand in the order of their first texts, so the first state of a class tells its place.
    numbers = {}
    firsts = []
    for state, found in enumerate(classes):
        if found not in numbers:
            numbers[found] = len(firsts)
            firsts.append(state)
    flags = end_flags(len(rows), ends)
    new_rows = tuple([tuple([numbers[classes[target]] for target in rows[state]]) for state in firsts])
    return new_rows, tuple([number for number, state in enumerate(firsts) if flags[state]])


def side_by_side(rows, others):
    """(rows, pairs) of the machine that runs two machines at once; each state is a pair of states."""
    pairs = [(0, 0)]
    numbers = {(0, 0): 0}
    new_rows = []
    at = 0
    while at < len(pairs):
        one, other = pairs[at]
        row = []
        for pair in zip(rows[one], others[other]):
            if pair not in numbers:
                numbers[pair] = len(pairs)
                pairs.append(pair)
            row.append(numbers[pair])
        new_rows.append(tuple(row))
        at += 1
    return tuple(new_rows), pairs
