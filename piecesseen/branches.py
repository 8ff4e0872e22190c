"""Machines with several ways at once, and the plain machines with the same languages.

`steps` has for each state and each letter the set of the targets. A set of states is an integer
whose bit with the number of a state tells whether it is in the set.
"""

from piecesseen.machines import is_dead


def set_behind(steps, held):
    """For each letter the set of all targets of the states in a set."""
    totals = [0] * len(steps[0])
    for state, row in enumerate(steps):
        if held >> state & 1:
            totals = [total | targets for total, targets in zip(totals, row)]
    return totals


def plain_machine(steps, start, finals):
    """(rows, ends) of the machine whose states are the sets of states that texts lead to."""
    held_sets = [start]
    numbers = {start: 0}
    rows = []
    at = 0
    while at < len(held_sets):
        held = held_sets[at]
        row = []
        for target in set_behind(steps, held):
            if target not in numbers:
                numbers[target] = len(held_sets)
                held_sets.append(target)
            row.append(numbers[target])
        rows.append(tuple(row))
        at += 1
    return tuple(rows), tuple([number for number, held in enumerate(held_sets) if held & finals])


def bits_of(rows, ends, shift):
    """For each state of a least machine the set of it alone, moved up by so many states.

    A dead state gives the empty set: it adds nothing to a set but would make more of them.
    """
    bits = []
    for state in range(len(rows)):
        bits.append(0 if is_dead(rows, ends, state) else 1 << (shift + state))
    return bits


def union_of(bits, states):
    """The set of some states."""
    union = 0
    for state in states:
        union = union | bits[state]
    return union


def steps_with_entry(rows, ends, bits, entry):
    """The steps of a least machine in which each way to an end leads to an entry, too."""
    reached = [bit | entry if state in ends else bit for state, bit in enumerate(bits)]
    return [[reached[target] for target in row] for row in rows]


def chained(rows, ends, other_rows, other_ends):
    """(rows, ends) of a machine for a text of one least machine and then a text of another one."""
    bits = bits_of(rows, ends, 0)
    other_bits = bits_of(other_rows, other_ends, len(rows))
    entry = other_bits[0]
    steps = steps_with_entry(rows, ends, bits, entry)
    other_steps = steps_with_entry(other_rows, (), other_bits, 0)
    start = bits[0] | entry if 0 in ends else bits[0]
    return plain_machine(steps + other_steps, start, union_of(other_bits, other_ends))


def repeated_often(rows, ends):
    """(rows, ends) of a machine for any number of texts of a least machine, one behind the other."""
    bits = bits_of(rows, ends, 0)
    steps = steps_with_entry(rows, ends, bits, bits[0])
    # The empty text needs a state of its own: other texts may come back to state 0 without being in the language.
    fresh = 1 << len(rows)
    return plain_machine([*steps, steps[0]], fresh, union_of(bits, ends) | fresh)


def steps_back(rows, bits):
    """The steps that lead from each state to the states that have it as a target."""
    steps = [[0] * len(row) for row in rows]
    for state, row in enumerate(rows):
        for at, target in enumerate(row):
            steps[target][at] = steps[target][at] | bits[state]
    return steps


def backward(rows, ends):
    """(rows, ends) of a machine for the texts of a least machine, read backward."""
    bits = bits_of(rows, ends, 0)
    return plain_machine(steps_back(rows, bits), union_of(bits, ends), bits[0])
