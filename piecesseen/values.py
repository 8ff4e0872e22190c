"""Questions about values of any kind."""

ALPHABET = "abcdefghijklmnopqrstuvwxyz"


def is_whole(thing):
    """Whether any value is an integer; a bool is none."""
    return isinstance(thing, int) and not isinstance(thing, bool)


def is_count(thing):
    """Whether any value is an integer from 1 on."""
    return is_whole(thing) and thing >= 1


def is_small(thing):
    """Whether any value is a string of letters from a to z, perhaps empty."""
    return isinstance(thing, str) and thing.strip(ALPHABET) == ""


def is_ascending(things):
    """Whether numbers, or the signs of a string, are sorted without duplicates."""
    return all([one < other for one, other in zip(things, things[1:])])
