"""The commands of a console: their forms, and the words of which they consist."""

from piecesseen.errors import InvalidCommand
from piecesseen.languages import is_letters
from piecesseen.values import is_small
from piecesseen.verdicts import is_kind

# What each word behind the first one is; "name" is kept anew, "kept" is kept already. More texts may follow in "set".
FORMS = {
    "set": ("name", "letters"), "have": ("name", "letters", "text", "up to 6"),
    "or": ("name", "kept", "kept"), "and": ("name", "kept", "kept"), "less": ("name", "kept", "kept"),
    "then": ("name", "kept", "kept"), "not": ("name", "kept"), "many": ("name", "kept"), "back": ("name", "kept"),
    "text": ("kept", "text"), "first": ("kept", "up to 50"), "states": ("kept",), "judge": ("kept", "kind"),
    "look": ("number", "number", "text"),
}
BOUNDS = {"up to 6": 6, "up to 50": 50}


def is_written_count(word):
    """Whether a word is an integer from 1 on, as Python writes it."""
    return word.isascii() and word.isdigit() and word[0] != "0"


def is_part(part, word):
    """Whether a word is what stands at its place in the form of a command."""
    if part in ("name", "kept"):
        return is_small(word) and 1 <= len(word) <= 8
    if part == "letters":
        return is_letters(word)
    if part == "text":
        return word == "-" or is_small(word) and word != ""
    if part == "kind":
        return is_kind(word)
    return is_written_count(word) and (part not in BOUNDS or int(word) <= BOUNDS[part])


def value_of(part, word):
    """What a word stands for."""
    if part == "text" and word == "-":
        return ""
    return int(word) if part == "number" or part in BOUNDS else word


def written(text):
    """The word for a text."""
    return "-" if text == "" else text


def command_in(thing):
    """(first word, parts) of a command, with what each further word is and stands for; raises InvalidCommand."""
    if not isinstance(thing, str):
        raise InvalidCommand()
    word, *others = thing.split(" ")
    if word not in FORMS:
        raise InvalidCommand()
    form = FORMS[word]
    if word == "set":
        form = form + ("text",) * (len(others) - len(form))
    if len(others) != len(form) or not all([is_part(part, other) for part, other in zip(form, others)]):
        raise InvalidCommand()
    return word, [(part, value_of(part, other)) for part, other in zip(form, others)]
