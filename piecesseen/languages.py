"""Letters, texts, and languages, each kept as its least machine."""

from piecesseen.branches import backward, chained, repeated_often
from piecesseen.errors import BadLanguage, BadLine, BadText, OtherLetters
from piecesseen.listing import alive_ahead, first_ahead, text_after
from piecesseen.machines import end_flags, is_ends, is_rows, least_machine, side_by_side, started_at, state_behind
from piecesseen.values import is_ascending
from piecesseen.written import lines_of, numbers_in


def is_letters(thing):
    """Whether any value is one to four different letters from a to z, ascending."""
    if not isinstance(thing, str) or not 1 <= len(thing) <= 4:
        return False
    return all(["a" <= sign <= "z" for sign in thing]) and is_ascending(thing)


def is_text(letters, thing):
    """Whether any value is a text over letters."""
    # What is stripped of all its letters is empty exactly if it has no other signs.
    return isinstance(thing, str) and thing.strip(letters) == ""


def letters_in(line):
    """The letters that the first line of the text of a machine names."""
    words = line.split(" ")
    if len(words) != 2 or words[0] != "letters" or not is_letters(words[1]):
        raise BadLine(1)
    return words[1]


def ends_in(line):
    """The ends that the second line of the text of a machine names."""
    words = line.split(" ")
    ends = numbers_in(words[1:])
    if words[0] != "ends" or ends is None or not is_ascending(ends):
        raise BadLine(2)
    return ends


def rows_in(lines, width):
    """The rows that the other lines of the text of a machine name, with so many targets each."""
    rows = []
    for number, line in enumerate(lines, start=3):
        row = numbers_in(line.split(" "))
        if row is None or len(row) != width:
            raise BadLine(number)
        rows.append(row)
    return rows


def machine_in(text):
    """(letters, rows, ends) of the machine with a text; raises BadLine for any value that is none."""
    if not isinstance(text, str):
        raise BadLine(0)
    lines = text.split("\n")
    # No line may be empty, so a missing line is found like an empty one.
    while len(lines) < 3:
        lines.append("")
    letters = letters_in(lines[0])
    ends = ends_in(lines[1])
    rows = rows_in(lines[2:], len(letters))
    for number, states in enumerate([ends, *rows], start=2):
        if not all([state < len(rows) for state in states]):
            raise BadLine(number)
    return letters, tuple(rows), ends


class Language:
    """The language of a machine; `letters`, `rows` and `ends` are those of its least machine."""

    def __init__(self, letters, rows, ends):
        if not is_letters(letters):
            raise BadLanguage("letters")
        if not is_rows(rows, len(letters)):
            raise BadLanguage("rows")
        if not is_ends(ends, len(rows)):
            raise BadLanguage("ends")
        self.letters = letters
        self.rows, self.ends = least_machine(rows, ends)

    @classmethod
    def read(cls, text):
        """The language of the machine with a text."""
        letters, rows, ends = machine_in(text)
        return cls(letters, rows, ends)

    def __str__(self):
        return "\n".join(lines_of(self.letters, self.rows, self.ends))

    def __contains__(self, text):
        return is_text(self.letters, text) and state_behind(self.letters, self.rows, 0, text) in self.ends

    def __len__(self):
        return len(self.rows)

    def __bool__(self):
        return True

    def __eq__(self, other):
        return (isinstance(other, Language) and self.letters == other.letters
                and self.rows == other.rows and self.ends == other.ends)

    def _check_letters(self, other):
        if self.letters != other.letters:
            raise OtherLetters()

    def _beside(self, other):
        """The rows of a machine that runs both machines, and for each of its states the pair of both answers."""
        self._check_letters(other)
        rows, pairs = side_by_side(self.rows, other.rows)
        mine = end_flags(len(self.rows), self.ends)
        others = end_flags(len(other.rows), other.ends)
        return rows, [(mine[one], others[two]) for one, two in pairs]

    def _answered(self, other, wanted):
        """The language of the texts for which the pair of both answers is a wanted one."""
        rows, answers = self._beside(other)
        return Language(self.letters, rows, tuple([state for state, pair in enumerate(answers) if pair in wanted]))

    def __le__(self, other):
        _, answers = self._beside(other)
        return (True, False) not in answers

    def __or__(self, other):
        return self._answered(other, ((True, True), (True, False), (False, True)))

    def __and__(self, other):
        return self._answered(other, ((True, True),))

    def __sub__(self, other):
        return self._answered(other, ((True, False),))

    def __invert__(self):
        flags = end_flags(len(self.rows), self.ends)
        return Language(self.letters, self.rows, tuple([state for state, flag in enumerate(flags) if not flag]))

    def __add__(self, other):
        self._check_letters(other)
        rows, ends = chained(self.rows, self.ends, other.rows, other.ends)
        return Language(self.letters, rows, ends)

    def starred(self):
        """The language of any number of texts of this one, one behind the other."""
        rows, ends = repeated_often(self.rows, self.ends)
        return Language(self.letters, rows, ends)

    def turned(self):
        """The language of the texts of this one, read backward."""
        rows, ends = backward(self.rows, self.ends)
        return Language(self.letters, rows, ends)

    def behind(self, text):
        """The language of the texts that, behind this text, are in this language."""
        if not is_text(self.letters, text):
            raise BadText(text)
        start = state_behind(self.letters, self.rows, 0, text)
        rows, ends = started_at(self.rows, self.ends, start)
        return Language(self.letters, rows, ends)

    def with_letters(self, letters):
        """The same language with other letters, the first one in the place of the first one, and so on."""
        if not is_letters(letters) or len(letters) != len(self.letters):
            raise BadLanguage("letters")
        return Language(letters, self.rows, self.ends)

    def in_order(self):
        """Yields the texts in order."""
        alive = [end_flags(len(self.rows), self.ends)]
        # All states are reached, so more texts come exactly as long as some state is alive.
        while any(alive[-1]):
            text = None
            if alive[-1][0]:
                text = first_ahead(self.letters, self.rows, alive, 0, len(alive) - 1)
            while text is not None:
                yield text
                text = text_after(self.letters, self.rows, alive, text)
            alive.append(alive_ahead(self.rows, alive[-1]))

    def many_of(self, length):
        """The number of the texts with so many letters."""
        counts = [int(flag) for flag in end_flags(len(self.rows), self.ends)]
        for _ in range(length):
            counts = [sum([counts[target] for target in row]) for row in self.rows]
        return counts[0]
