"""The words and lines of which the text of a machine consists."""


def numbers_line(numbers):
    """Numbers with single blanks between them."""
    return " ".join([str(number) for number in numbers])


def lines_of(letters, rows, ends):
    """The lines of the text of a machine."""
    ends_line = f"ends {numbers_line(ends)}" if ends else "ends"
    return [f"letters {letters}", ends_line, *[numbers_line(row) for row in rows]]


def is_number(word):
    """Whether a word is an integer from 0 on of at most 6 digits, as Python writes it."""
    return word.isascii() and word.isdigit() and len(word) <= 6 and (word == "0" or word[0] != "0")


def numbers_in(words):
    """The tuple of the numbers that words write, or None if some word writes none."""
    if not all([is_number(word) for word in words]):
        return None
    return tuple([int(word) for word in words])
