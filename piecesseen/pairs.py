"""Two states of a least machine that read the same texts side by side."""

from piecesseen.machines import end_flags


def ways_from(letters, rows, pair):
    """For each pair of states the first text, not empty, that leads both states of a pair there."""
    waiting = [pair]
    texts = [""]
    ways = {}
    at = 0
    while at < len(waiting):
        one, other = waiting[at]
        for letter, target, other_target in zip(letters, rows[one], rows[other]):
            found = (target, other_target)
            if found not in ways:
                ways[found] = texts[at] + letter
                waiting.append(found)
                texts.append(ways[found])
        at += 1
    return ways


def texts_to_states(letters, rows):
    """For each state of a least machine the first text that leads to it."""
    ways = ways_from(letters, rows, (0, 0))
    return [ways[(state, state)] if state > 0 else "" for state in range(len(rows))]


def answered(pair, ways, flags, wanted):
    """The first text that leads a pair to a wanted pair of answers, or None; `ways` are those from the pair."""
    if (flags[pair[0]], flags[pair[1]]) in wanted:
        return ""
    for (one, other), text in ways.items():
        if (flags[one], flags[other]) in wanted:
            return text
    return None


def telling_apart(language, one, other):
    """The first text that leads just one of two different states to an end."""
    ways = ways_from(language.letters, language.rows, (one, other))
    flags = end_flags(len(language.rows), language.ends)
    return answered((one, other), ways, flags, ((True, False), (False, True)))
