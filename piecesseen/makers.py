"""Languages made from letters, texts and numbers."""

from piecesseen.errors import BadLanguage, BadText
from piecesseen.languages import Language, is_letters, is_text


def check(letters, texts):
    """Raises the first error of letters and of texts over them, all of them any values."""
    if not is_letters(letters):
        raise BadLanguage("letters")
    for text in texts:
        if not is_text(letters, text):
            raise BadText(text)


def matched(piece, text):
    """How many letters the longest beginning of the piece has with which the text ends."""
    many = len(piece)
    while not text.endswith(piece[:many]):
        many -= 1
    return many


def matching_rows(letters, piece):
    """Rows with a state for each number of letters of the piece that are matched."""
    return [[matched(piece, piece[:many] + letter) for letter in letters] for many in range(len(piece) + 1)]


def frozen(rows):
    """Lists of targets as the rows of a machine."""
    return tuple([tuple(row) for row in rows])


def finite(letters, *texts):
    """The language of these texts."""
    check(letters, texts)
    numbers = {"": 0}
    for text in texts:
        for many in range(1, len(text) + 1):
            numbers.setdefault(text[:many], len(numbers))
    dead = len(numbers)
    rows = [[numbers.get(begun + letter, dead) for letter in letters] for begun in numbers]
    rows.append([dead] * len(letters))
    ends = tuple([number for begun, number in numbers.items() if begun in texts])
    return Language(letters, frozen(rows), ends)


def having(letters, piece, least=1):
    """The language of the texts in which the piece stands at so many places, or at more."""
    check(letters, (piece,))
    if piece == "":
        raise BadText(piece)
    matching = matching_rows(letters, piece)
    width = len(matching)
    rows = []
    for seen in range(least + 1):
        # Places beyond those that are asked for need not be told apart.
        behind = seen + 1 if seen < least else seen
        for row in matching:
            rows.append([(behind if many == len(piece) else seen) * width + many for many in row])
    ends = tuple([state for state in range(len(rows)) if state >= least * width])
    return Language(letters, frozen(rows), ends)


def beginning(letters, text):
    """The language of the texts that begin with a text."""
    check(letters, (text,))
    whole = len(text)
    dead = whole + 1
    rows = [[at + 1 if letter == text[at] else dead for letter in letters] for at in range(whole)]
    rows = rows + [[whole] * len(letters), [dead] * len(letters)]
    return Language(letters, frozen(rows), (whole,))


def ending(letters, text):
    """The language of the texts that end with a text."""
    check(letters, (text,))
    return Language(letters, frozen(matching_rows(letters, text)), (len(text),))


def lengths(letters, period, rests):
    """The language of the texts whose length leaves one of the rests when divided by the period."""
    check(letters, ())
    rows = [[(rest + 1) % period] * len(letters) for rest in range(period)]
    return Language(letters, frozen(rows), tuple([rest for rest in range(period) if rest in rests]))
