"""Questions about values of any kind."""


def is_whole(thing):
    """Whether any value is an integer; a bool is none."""
    return isinstance(thing, int) and not isinstance(thing, bool)


def is_ascending(things):
    """Whether numbers, or the signs of a string, are sorted without duplicates."""
    return all([one < other for one, other in zip(things, things[1:])])
