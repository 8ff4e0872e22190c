"""The languages that the tests of verdicts ask about."""

from functools import cache

from judged import conditions, drawn, parts
from papers_plain import is_within
from piecesseen.languages import Language
from piecesseen.makers import beginning, ending, finite, having, lengths
from piecesseen.verdicts import verdict

EVEN = Language("ab", ((0, 1), (1, 0)), (0,))
AHEAD = Language("abc", ((1, 0, 0), (1, 2, 1), (2, 2, 2)), (2,))
# Behind the first a or b only this letter is remembered.
FIRST = Language("abc", ((1, 2, 0), (1, 1, 1), (2, 2, 2)), (1,))
NO_BB = ~having("ab", "bb")
SOME_B = having("ab", "b")
TWO_B = having("ab", "b", 2)
# With the kinds of which they are.
EXAMPLES = [
    (NO_BB, ("forbidding", "occurring", "counting")), (SOME_B, ("occurring", "counting")), (TWO_B, ("counting",)),
    (EVEN, ()), (AHEAD, ()), (~NO_BB, ("occurring", "counting")), (~SOME_B, ("forbidding", "occurring", "counting")),
    (~TWO_B, ("counting",)), (~EVEN, ()), (~AHEAD, ()), (having("ab", "ab", 2), ("counting",)),
    (finite("ab"), ("forbidding", "occurring", "counting")), (~finite("bcd"), ("forbidding", "occurring", "counting")),
    (finite("ab", "", "ab"), ("forbidding", "occurring", "counting")), (lengths("ab", 3, (1,)), ()),
    (beginning("ab", "ba") & ending("ab", "b"), ("forbidding", "occurring", "counting")),
    (lengths("a", 5, (0, 2)), ()), (finite("a", "aaa"), ("forbidding", "occurring", "counting")),
    (having("wxyz", "y", 3), ("counting",)),
]


def exchanging(end):
    """A language in which the first of a and b is remembered, the number of c divided by 2, and that of d by 3."""
    rows = []
    for first in range(3):
        for two in range(2):
            for three in range(3):
                places = [(first or 1, two, three), (first or 2, two, three), (first, 1 - two, three),
                          (first, two, (three + 1) % 3)]
                rows.append(tuple(6 * one + 3 * second + third for one, second, third in places))
    return Language("abcd", tuple(rows), (end,))


def two_rounds(one, other, end):
    """The texts with one b: so many a ahead of it as a number divides, and behind it so many that a rest is left."""
    dead = one + other
    rows = [((state + 1) % one, dead if state else one) for state in range(one)]
    rows += [(one + (state + 1) % other, dead) for state in range(other)]
    return Language("ab", (*map(tuple, rows), (dead, dead)), (one + end,))


@cache
def found_languages(seed, many=12):
    """Languages of conditions and of drawn machines, over several letters."""
    found = [language for language, _ in EXAMPLES]
    for letters, most in (("a", 9), ("ab", 3), ("bcd", 3), ("wxyz", 3)):
        found += conditions(seed, many, letters)[len(parts(letters)) // 2:]
        found += drawn(seed + 1, many, letters, most)
    return found


@cache
def asked(seed, many=12):
    """(language, kind) for these languages and all kinds, within the limits."""
    return [(language, kind) for language in found_languages(seed, many)
            for kind in ("forbidding", "occurring", "counting") if is_within(language, kind)]


@cache
def answered(seed, many=12):
    """(language, kind, paper) likewise, with the papers of verdict."""
    return [(language, kind, verdict(language, kind)) for language, kind in asked(seed, many)]
