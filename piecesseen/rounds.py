"""How far must be counted with k, as rounds tell.

A round at a word of k - 1 letters is a text behind which the word stands last again, no other word having stood there
twice on its way. If x v s^t and x v s^(t + 1) lead to different states, for a round s at the word v, a language is not
judged by counts with (k, t), since these two texts look the same. So t is at least as great as the number of times that
some round can be done until it changes nothing more.

With one more it is enough, if any t is enough for this k. Two texts that look the same with that t differ only in the
places of pieces that stand at t places or more in both, and they differ by whole rounds over such pieces. For each of
these rounds a text with just the same numbers does it t times, the other parts of the text hanging on the first time;
behind the other t - 1 times this round, done once more or once less, changes nothing.
"""

from piecesseen.occurring import agree
from piecesseen.words import words_led


def rounds_at(letters, rows, word, places):
    """Where the rounds at a word lead the places, some states: a dict for each round."""
    waiting = [((word,), places)]
    rounds = []
    while waiting:
        passed, states = waiting.pop()
        for at, letter in enumerate(letters):
            here = (passed[-1] + letter)[1:]
            led = tuple([rows[state][at] for state in states])
            if here == word:
                rounds.append(dict(zip(places, led)))
            elif here not in passed:
                waiting.append((passed + (here,), led))
    return rounds


def times_done(around):
    """How many times a round, a dict, is done until it moves no place any more; all places must come to rest."""
    most = 0
    for place in around:
        times = 0
        here = place
        while around[here] != here:
            here = around[here]
            times += 1
        if times > most:
            most = times
    return most


def rounds_done(language, width):
    """The greatest number of times that a round can be done until it changes nothing more, for judges with k.

    It is None where two rounds lead to other states if they change places: then no t is great enough.
    """
    letters, rows = language.letters, language.rows
    most = 0
    for word, led in words_led(letters, rows, width - 1).items():
        rounds = rounds_at(letters, rows, word, tuple(sorted(set(led))))
        if not all([agree(one, other) for at, one in enumerate(rounds) for other in rounds[:at]]):
            return None
        for around in rounds:
            times = times_done(around)
            if times > most:
                most = times
    return most
