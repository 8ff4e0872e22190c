"""A console that keeps languages by names."""

from piecesseen.commands import command_in, written
from piecesseen.errors import BadText, InvalidCommand, NoLanguage
from piecesseen.languages import is_text
from piecesseen.makers import finite, having
from piecesseen.verdicts import is_of, verdict
from piecesseen.views import view_of


def made_set(letters, *texts):
    """The language of these texts."""
    try:
        return finite(letters, *texts)
    except BadText:
        raise InvalidCommand() from None


def made_have(letters, piece, least):
    """The language of the texts in which a piece stands so often."""
    try:
        return having(letters, piece, least)
    except BadText:
        raise InvalidCommand() from None


def made_or(one, other):
    """The texts of either language."""
    return one | other


def made_and(one, other):
    """The texts of both languages."""
    return one & other


def made_less(one, other):
    """The texts of the first language alone."""
    return one - other


def made_then(one, other):
    """The texts that consist of a text of each language."""
    return one + other


def made_not(one):
    """All other texts."""
    return ~one


def made_many(one):
    """The texts that consist of any number of texts of a language."""
    return one.starred()


def made_back(one):
    """The texts of a language, read backward."""
    return one.turned()


def answer_text(language, text):
    """Whether a text is in a language."""
    if not is_text(language.letters, text):
        raise InvalidCommand()
    return "yes" if text in language else "no"


def answer_first(language, most):
    """The first texts of a language."""
    found = []
    for text in language.in_order():
        found.append(written(text))
        if len(found) == most:
            break
    return " ".join(found) if found else "none"


def answer_states(language):
    """The number of states."""
    return str(len(language))


def answer_judge(language, kind):
    """Whether a language is of a kind."""
    # The table that a verdict about counts has is not asked for.
    if kind == "counting" and is_of(language, kind):
        return "yes"
    paper = verdict(language, kind)
    if paper[0] != kind:
        return f"no {paper[0]}"
    width = paper[1][0] if kind == "forbidding" else paper[1]
    return f"yes {width}"


def answer_look(width, top, text):
    """The view of a text."""
    view = view_of(width, top, text)
    if view[0] == "short":
        return f"short {written(text)}"
    _, first, last, pairs = view
    return " ".join(["long", written(first), written(last), *[f"{piece}*{number}" for piece, number in pairs]])


MAKING = {
    "set": made_set, "have": made_have, "or": made_or, "and": made_and, "less": made_less, "then": made_then,
    "not": made_not, "many": made_many, "back": made_back,
}
ASKING = {
    "text": answer_text, "first": answer_first, "states": answer_states, "judge": answer_judge, "look": answer_look,
}


class Console:
    """Somebody who keeps languages by names and answers commands."""

    def __init__(self):
        self._kept = {}

    def _named(self, parts):
        """The values of the parts of a command, with kept languages in the place of their names."""
        values = []
        for part, value in parts:
            if part == "kept":
                if value not in self._kept:
                    raise NoLanguage(value)
                values.append(self._kept[value])
            else:
                values.append(value)
        return values

    def say(self, command):
        """The answer to a command."""
        word, parts = command_in(command)
        values = self._named(parts)
        if word in ASKING:
            answer = ASKING[word]
            return answer(*values)
        make = MAKING[word]
        name, *others = values
        self._kept[name] = make(*others)
        return "ok"
