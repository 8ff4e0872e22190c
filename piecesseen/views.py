"""Pieces of texts, and the views that judges have of texts."""

from piecesseen.errors import BadView
from piecesseen.languages import is_text
from piecesseen.values import is_ascending, is_whole
from piecesseen.walks import is_walk


def in_pairs(numbers):
    """A dict of numbers of pieces as the ascending tuple of (piece, number)."""
    return tuple([(piece, numbers[piece]) for piece in sorted(set(numbers))])


def pieces_of(width, text):
    """The ascending tuple of (piece, number) for each piece of a text, with the number of all its places."""
    numbers = {}
    for start in range(len(text) - width + 1):
        piece = text[start:start + width]
        numbers[piece] = numbers.get(piece, 0) + 1
    return in_pairs(numbers)


def summed(tables, top):
    """The numbers of several tuples of (piece, number) together, cut off at top."""
    numbers = {}
    for pairs in tables:
        for piece, number in pairs:
            total = numbers.get(piece, 0) + number
            numbers[piece] = total if total < top else top
    return in_pairs(numbers)


def ended_with(width, text):
    """The last k - 1 letters of a text."""
    return text[len(text) - width + 1:]


def view_of(width, top, text):
    """The view of a text."""
    if len(text) < width:
        return "short", text
    return "long", text[:width - 1], ended_with(width, text), summed([pieces_of(width, text)], top)


def view_behind(width, top, view, letter):
    """The view of a text with a letter behind it, by its view."""
    if view[0] == "short":
        return view_of(width, top, view[1] + letter)
    _, first, last, pairs = view
    piece = last + letter
    return "long", first, piece[1:], summed([pairs, ((piece, 1),)], top)


def parts_of(view):
    """What a view tells of the beginning and of the end of its texts, and its tuple of (piece, number)."""
    if view[0] == "short":
        return view[1], view[1], ()
    return view[1:]


def joined(width, top, view, other):
    """The view of a text with another text behind it, by their views."""
    if view[0] == "short" and other[0] == "short":
        return view_of(width, top, view[1] + other[1])
    first, last, pairs = parts_of(view)
    other_first, other_last, other_pairs = parts_of(other)
    between = pieces_of(width, last + other_first)
    ended = ended_with(width, last + other_last)
    return "long", (first + other_first)[:width - 1], ended, summed([pairs, between, other_pairs], top)


def repeated(width, top, view, many):
    """The view of a text repeated so many times, by its view."""
    total = ("short", "")
    # Twice as many texts at each step: the numbers of times are too great to be gone through one by one.
    power = view
    while many > 0:
        if many % 2 == 1:
            total = joined(width, top, total, power)
        power = joined(width, top, power, power)
        many = many // 2
    return total


def views(letters, width, top):
    """Yields all views of texts over the letters, in the order of their first texts."""
    waiting = [("short", "")]
    seen = {("short", ""): True}
    at = 0
    while at < len(waiting):
        view = waiting[at]
        yield view
        for letter in letters:
            found = view_behind(width, top, view, letter)
            if found not in seen:
                seen[found] = True
                waiting.append(found)
        at += 1


def is_pair(letters, width, top, thing):
    """Whether any value is (piece, number) with a text of k letters and a number from 1 to top."""
    if not isinstance(thing, tuple) or len(thing) != 2:
        return False
    piece, number = thing
    return is_text(letters, piece) and len(piece) == width and is_whole(number) and 1 <= number <= top


def is_counts(letters, width, top, thing):
    """Whether any value is a tuple of (piece, number), at least one, with ascending pieces."""
    if not isinstance(thing, tuple) or len(thing) == 0:
        return False
    return all([is_pair(letters, width, top, pair) for pair in thing]) and is_ascending([pair[0] for pair in thing])


def is_word(letters, length, thing):
    """Whether any value is a text of so many letters."""
    return is_text(letters, thing) and len(thing) == length


def has_view_form(letters, width, top, thing):
    """Whether any value is made like a view of a text over the letters, be there such a text or not."""
    if not isinstance(thing, tuple):
        return False
    if len(thing) == 2:
        return thing[0] == "short" and is_text(letters, thing[1]) and len(thing[1]) < width
    if len(thing) != 4 or thing[0] != "long" or not is_counts(letters, width, top, thing[3]):
        return False
    return is_word(letters, width - 1, thing[1]) and is_word(letters, width - 1, thing[2])


def view_holds(letters, width, top, thing):
    """Whether any value is a view of a text over the letters."""
    if not has_view_form(letters, width, top, thing):
        return False
    return thing[0] == "short" or is_walk(thing[1], thing[2], thing[3], top)


def is_within(view, numbers):
    """Whether no piece of a long view stands at more places than these numbers say."""
    return all([number <= numbers.get(piece, 0) for piece, number in view[3]])


def first_text(letters, width, top, view):
    """The first text, in order, with a view."""
    if not view_holds(letters, width, top, view):
        raise BadView(view)
    if view[0] == "short":
        return view[1]
    numbers = {piece: number for piece, number in view[3]}
    # Each text with this view begins with these letters, and none of its beginnings has a piece more often.
    waiting = [("short", view[1])]
    texts = {waiting[0]: view[1]}
    at = 0
    while view not in texts:
        here = waiting[at]
        for letter in letters:
            found = view_behind(width, top, here, letter)
            if found not in texts and is_within(found, numbers):
                texts[found] = texts[here] + letter
                waiting.append(found)
        at += 1
    return texts[view]
