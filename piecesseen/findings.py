"""Findings: what was found out about languages and texts, as values that can be checked."""

from piecesseen.errors import BadLine
from piecesseen.languages import Language
from piecesseen.papers import is_against
from piecesseen.shadows import core, shadow
from piecesseen.values import is_count, is_small
from piecesseen.verdicts import is_for, is_kind
from piecesseen.views import view_of


def language_in(thing):
    """The language of the machine with a text, or None for any value that is no such text."""
    try:
        return Language.read(thing)
    except BadLine:
        return None


def languages_in(written, other_written):
    """Two languages over the same letters, or None for any values that are not the texts of two such machines."""
    language = language_in(written)
    other = language_in(other_written)
    if language is None or other is None or language.letters != other.letters:
        return None
    return language, other


def judged(written, kind, paper):
    """Whether a paper shows that a language is of a kind."""
    language = language_in(written)
    return language is not None and is_kind(kind) and is_for(language, kind, paper)


def unjudged(written, kind, paper):
    """Whether a paper shows that a language is not of a kind."""
    language = language_in(written)
    return language is not None and is_kind(kind) and is_against(language, kind, paper)


def are_alike(width, top, text, other):
    """Whether two texts have the same view."""
    if not is_count(width) or not is_count(top) or not is_small(text) or not is_small(other):
        return False
    return view_of(width, top, text) == view_of(width, top, other)


def is_shadow(written, width, top, other_written):
    """Whether the shadow of one language is another one."""
    found = languages_in(written, other_written)
    if found is None or not is_count(width) or not is_count(top):
        return False
    language, other = found
    return shadow(language, width, top) == other


def is_core(written, width, top, other_written):
    """Whether the core of one language is another one."""
    found = languages_in(written, other_written)
    if found is None or not is_count(width) or not is_count(top):
        return False
    language, other = found
    return core(language, width, top) == other


def is_common(written, other_written, width, top, text, further):
    """Whether two languages have these texts, which have the same view."""
    found = languages_in(written, other_written)
    if found is None:
        return False
    language, other = found
    return text in language and further in other and are_alike(width, top, text, further)


# For each sort of findings the number of its parts, and what checks them.
PARTS = {"judged": 3, "unjudged": 3, "alike": 4, "shadow": 4, "core": 4, "common": 6}
CHECKS = {
    "judged": judged, "unjudged": unjudged, "alike": are_alike, "shadow": is_shadow, "core": is_core,
    "common": is_common,
}


def finding_holds(thing):
    """Whether any value is a finding that holds."""
    if not isinstance(thing, tuple) or len(thing) == 0 or not isinstance(thing[0], str):
        return False
    sort, *parts = thing
    if sort not in PARTS or len(parts) != PARTS[sort]:
        return False
    check = CHECKS[sort]
    return check(*parts)
