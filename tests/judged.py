"""What the tests of views and judges share: views, judges and papers by plain Python, and languages to be judged."""

import itertools
import random

from piecesseen.errors import BadText
from piecesseen.languages import Language
from piecesseen.makers import beginning, ending, finite, having, lengths
from plain import machines, run


def places(piece, text):
    """The number of places at which a piece stands, overlapping ones too."""
    return sum(text.startswith(piece, place) for place in range(len(text)))


def words(letters, length):
    """All words of so many letters, ascending."""
    return ["".join(signs) for signs in itertools.product(letters, repeat=length)]


def plain_view(letters, width, top, text):
    """The view of a text, found by looking for each word of k letters."""
    if len(text) < width:
        return "short", text
    counts = tuple((word, min(top, places(word, text))) for word in words(letters, width) if word in text)
    return "long", text[:width - 1], text[::-1][:width - 1][::-1], counts


def plain_accepts(letters, judge, text):
    """Whether a judge accepts a text: by the words of k letters that are not among its pieces."""
    width, short, firsts, lasts, pieces = judge
    if len(text) < width:
        return text in short
    if not any(text.startswith(first) for first in firsts) or not any(text.endswith(last) for last in lasts):
        return False
    return not any(word in text for word in words(letters, width) if word not in pieces)


def plain_least_judge(letters, held, width):
    """The least forbidding judge of some texts, word by word."""
    longer = [text for text in held if len(text) >= width]
    return (width, tuple(sorted({text for text in held if len(text) < width}, key=lambda text: (len(text), text))),
            tuple(word for word in words(letters, width - 1) if any(text.startswith(word) for text in longer)),
            tuple(word for word in words(letters, width - 1) if any(text.endswith(word) for text in longer)),
            tuple(word for word in words(letters, width) if any(word in text for text in longer)))


def in_order(held):
    return tuple(sorted(held, key=lambda text: (len(text), text)))


def plain_is_judge(letters, thing):
    """Whether a value is a forbidding judge, item by item, with classes instead of isinstance."""
    if thing.__class__ is not tuple or [part.__class__ for part in thing] != [int, tuple, tuple, tuple, tuple]:
        return False
    width, short, *rest = thing
    if any(text.__class__ is not str or text.strip(letters) for part in thing[1:] for text in part) or width < 1:
        return False
    if short != in_order(set(short)) or any(len(text) >= width for text in short):
        return False
    return all(part == tuple(sorted(set(part))) and {len(word) for word in part} <= {length}
               for part, length in zip(rest, (width - 1, width - 1, width)))


def drawn_judges(letters, seed, many):
    """Judges with any entries, also with some to which no accepted text comes."""
    chance = random.Random(seed)
    for _ in range(many):
        width = chance.randint(1, 4 if len(letters) < 3 else 3)
        rate = chance.choice((0.2, 0.5, 0.8))
        shorter = [word for length in range(width) for word in words(letters, length)]
        yield (width, *[tuple(word for word in held if chance.random() < rate) for held in (
            shorter, words(letters, width - 1), words(letters, width - 1), words(letters, width))])


def plain_states(language, width, top, most=10 ** 6):
    """The state of each view by the view's first text, or None if some view has two states or there are more views."""
    states = {("short", ""): 0}
    waiting = [""]
    for text in waiting:
        for letter in language.letters:
            view = plain_view(language.letters, width, top, text + letter)
            state = run(language.letters, language.rows, 0, text + letter)
            if view not in states:
                waiting.append(text + letter)
            if states.setdefault(view, state) != state or len(states) > most:
                return None
    return states


def actions(language):
    """All actions of the least machine of a language, by plain Python."""
    letters, rows = language.letters, language.rows
    found = {tuple(row[at] for row in rows) for at in range(len(letters))}
    waiting = list(found)
    for action in waiting:
        for at in range(len(letters)):
            longer = tuple(rows[state][at] for state in action)
            if longer not in found:
                found.add(longer)
                waiting.append(longer)
            if len(found) > 100:
                return found
    return found


def has_limits(language):
    """Whether a language may be passed to a function marked (kinds), as far as states and actions go."""
    return len(language) <= 16 and len(actions(language)) <= 100


def drawn(seed, many, letters, most_states):
    """Languages of machines within the limits for (kinds), other ones for each seed."""
    found = [Language(*machine) for machine in machines(seed, many, letters, most_states)]
    return [language for language in found if has_limits(language)]


def otherwise(part, fillers):
    """Values in the place of a value: of every other kind, or with one thing in it otherwise, left out or twice."""
    found = [None, True, False, 0, 1, -1, "", "a", (), [], {}, (part,), [part], BadText(part),
             Language("ab", ((0, 0),), (0,)), *fillers]
    if isinstance(part, tuple):
        found += [list(part), part + part, part + part[:1], part[::-1], part + (None,)]
        for at, item in enumerate(part):
            found += [part[:at] + part[at + 1:], part[:at] + (item, item) + part[at + 1:]]
            found += [part[:at] + (other,) + part[at + 1:] for other in otherwise(item, fillers)]
    if isinstance(part, str):
        found += [part + "a", part[:-1], part[::-1], part.replace("a", "b"), list(part), tuple(part), part.upper()]
    if isinstance(part, int):
        found += [part + 1, part - 1, part + 10 ** 39, str(part)]
    return found


def parts(letters):
    """Languages of single conditions on first and last letters and on pieces."""
    a, z = letters[0], letters[-1]
    return [
        finite(letters), finite(letters, ""), finite(letters, a), finite(letters, "", z + a, a + z), having(letters, z),
        having(letters, z + a), having(letters, a + z), having(letters, a, 2), having(letters, z + z),
        having(letters, a + z, 2), beginning(letters, z), beginning(letters, a + a), ending(letters, a),
        ending(letters, z + a), ending(letters, z + z), lengths(letters, 2, (1,)), lengths(letters, 1, (0,)),
    ]


def conditions(seed, many, letters):
    """The single conditions, and languages of several conditions, within the limits for (kinds)."""
    chance = random.Random(seed)
    single = parts(letters)
    found = list(single)
    for _ in range(many):
        one, other = [chance.choice([part, ~part]) for part in chance.sample(single, 2)]
        found.append(chance.choice([one & other, one | other, one - other]))
    return [language for language in found if has_limits(language)]
