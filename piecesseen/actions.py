"""The actions of a least machine: for each state the one to which a text leads that is not empty."""

from piecesseen.pairs import telling_apart


def one_by_one(action, other):
    """The action that does one action and then another one."""
    return tuple([other[state] for state in action])


def actions_of(letters, rows):
    """For each action of a least machine its first text, in the order of these texts."""
    single = [tuple([row[at] for row in rows]) for at in range(len(letters))]
    texts = {}
    for letter, action in zip(letters, single):
        texts.setdefault(action, letter)
    waiting = list(texts)
    at = 0
    while at < len(waiting):
        text = texts[waiting[at]]
        for letter, action in zip(letters, single):
            found = one_by_one(waiting[at], action)
            if found not in texts:
                texts[found] = text + letter
                waiting.append(found)
        at += 1
    return texts


def differing(language, texts, one, other):
    """Two texts (x, y) such that just one of two different actions leads from behind x by y to an end."""
    state = [target == other_target for target, other_target in zip(one, other)].index(False)
    return texts[state], telling_apart(language, one[state], other[state])
