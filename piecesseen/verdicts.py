"""Verdicts: papers that a language is of a kind, or is not."""

from piecesseen.counted import counting_paper, paper_against_counts
from piecesseen.errors import NoJudge
from piecesseen.fitting import fits
from piecesseen.forbidding import is_judge, judge_of, least_forbidding, splice_of
from piecesseen.occurring import is_occurring, least_occurring, paper_against
from piecesseen.papers import first_twins, is_against, texts_for
from piecesseen.tables import table_holds
from piecesseen.values import is_count

KINDS = ("forbidding", "occurring", "counting")


def is_kind(thing):
    """Whether any value is one of the three kinds."""
    return isinstance(thing, str) and thing in KINDS


def least_paper(language, kind):
    """The paper with the least number for one of the first two kinds; raises NoJudge."""
    if kind == "forbidding":
        return kind, judge_of(language, least_forbidding(language))
    return kind, least_occurring(language)


def verdict(language, kind):
    """A paper that a language is of a kind, or one that it is not."""
    if kind == "counting":
        against = paper_against_counts(language)
        return counting_paper(language) if against is None else against
    try:
        return least_paper(language, kind)
    except NoJudge as error:
        return error.paper


def occurs_with(language, width):
    """Whether a language is judged by occurrences with k, which may be of any size."""
    if paper_against(language) is not None:
        return False
    least = 1
    while least <= width and not is_occurring(language, least):
        least += 1
    return least <= width


def is_for(language, kind, thing):
    """Whether any value is a paper that a language is of a kind."""
    if not isinstance(thing, tuple) or len(thing) == 0 or thing[0] != kind:
        return False
    if kind == "forbidding":
        return len(thing) == 2 and is_judge(language.letters, thing[1]) and fits(language, thing[1])
    if kind == "occurring":
        return len(thing) == 2 and is_count(thing[1]) and occurs_with(language, thing[1])
    return (len(thing) == 4 and is_count(thing[1]) and is_count(thing[2])
            and table_holds(language, thing[1], thing[2], thing[3]))


def verdict_holds(language, kind, thing):
    """Whether any value is a paper that a language is of a kind, or one that it is not."""
    return is_for(language, kind, thing) or is_against(language, kind, thing)


def is_of(language, kind):
    """Whether a language is of a kind."""
    if kind == "forbidding":
        return splice_of(language) is None
    if kind == "occurring":
        return paper_against(language) is None
    return paper_against_counts(language) is None


def twins(language, paper, width, top=1):
    """The texts of a paper that a language is not of its kind, for the least n from k + t on with twins."""
    return texts_for(paper, first_twins(language, paper, width + top))
