"""finding_holds: each of the six sorts, right ones, and others with one thing otherwise."""

import random
import unittest

from asked import AHEAD, EVEN, NO_BB, SOME_B, TWO_B, answered, found_languages
from judged import otherwise, plain_view
from papers_plain import KINDS, plain_against, plain_for
from piecesseen.counting import is_counting, table_of
from piecesseen.errors import BadLine, NoJudge, Unjudged
from piecesseen.findings import finding_holds
from piecesseen.forbidding import least_forbidding
from piecesseen.languages import Language
from piecesseen.makers import beginning, finite, having, lengths
from piecesseen.shadows import common_view, core, shadow
from piecesseen.verdicts import is_of, twins, verdict
from plain import ODD_STRINGS, PlainCase, odd_values, run, texts

SIZES = {"a": [(1, 1), (3, 2)], "ab": [(1, 1), (1, 3), (2, 1), (2, 2)], "abc": [(1, 1)], "bcd": [(1, 1), (1, 2)],
         "wxyz": [(1, 1)]}
SORTS = ("judged", "unjudged", "alike", "shadow", "core", "common")


def other_text(language, seed):
    """The text of another machine with this language: each state twice, in any order, and one that is not reached."""
    chance = random.Random(seed)
    many = len(language)
    numbers = list(range(1, 2 * many))
    chance.shuffle(numbers)
    numbers = [0, *numbers]
    places = {number: place for place, number in enumerate(numbers)}
    rows = []
    for place, number in enumerate(numbers):
        rows.append([places[target + many * chance.randint(0, 1)] for target in language.rows[number % many]])
    rows.append([chance.randrange(2 * many + 1) for _ in language.letters])
    ends = [place for place, number in enumerate(numbers) if number % many in language.ends]
    lines = [f"letters {language.letters}", " ".join(["ends", *map(str, ends)])]
    return "\n".join(lines + [" ".join(map(str, row)) for row in rows])


def plain_language(written):
    """The language of a machine with a text, or None."""
    try:
        return Language.read(written)
    except BadLine:
        return None


def is_number(thing):
    return thing.__class__ is int and thing > 0


def is_plain_text(thing):
    return thing.__class__ is str and all("a" <= sign <= "z" for sign in thing)


def looks_alike(width, top, text, other):
    """Whether two texts have the same view."""
    letters = "".join(sorted(set(text + other) | {"a"}))
    if len(text) < width or len(other) < width:
        return text == other
    if text[:width - 1] != other[:width - 1] or text[len(text) - width + 1:] != other[len(other) - width + 1:]:
        return False
    pieces = {held[at:at + width] for held in (text, other) for at in range(len(held) - width + 1)}
    counts = [[min(top, sum(held.startswith(piece, at) for at in range(len(held)))) for piece in sorted(pieces)]
              for held in (text, other)]
    return counts[0] == counts[1] and letters != ""


def plain_around(language, width, top, other, wanted):
    """Whether another language is the shadow (wanted is True) or core (False), by a walk through views and both."""
    letters = language.letters
    seen = {(("short", ""), 0, 0): ""}
    waiting = list(seen)
    answers, others = {}, {}
    for found in waiting:
        text = seen[found]
        answers.setdefault(found[0], set()).add(text in language)
        others.setdefault(found[0], set()).add(text in other)
        for letter in letters:
            longer = text + letter
            found = (plain_view(letters, width, top, longer), run(letters, language.rows, 0, longer),
                     run(letters, other.rows, 0, longer))
            if found not in seen:
                seen[found] = longer
                waiting.append(found)
    return all(others[view] == {wanted if wanted in told else not wanted} for view, told in answers.items())


def plain_holds(thing):
    """Whether a value is a finding that holds, by plain Python; k and t are small."""
    if thing.__class__ is not tuple or not thing or thing[0].__class__ is not str or thing[0] not in SORTS:
        return False
    sort, *parts = thing
    if len(parts) != {"judged": 3, "unjudged": 3, "common": 6}.get(sort, 4):
        return False
    if sort == "alike":
        return is_number(parts[0]) and is_number(parts[1]) and all(map(is_plain_text,
                                                                       parts[2:])) and looks_alike(*parts)
    language = plain_language(parts[0])
    if language is None:
        return False
    if sort in ("judged", "unjudged"):
        check = plain_for if sort == "judged" else plain_against
        return parts[1].__class__ is str and parts[1] in KINDS and check(language, parts[1], parts[2])
    if sort == "common":
        other = plain_language(parts[1])
        if other is None or other.letters != language.letters or not is_number(parts[2]) or not is_number(parts[3]):
            return False
        return parts[4] in language and parts[5] in other and looks_alike(*parts[2:])
    other = plain_language(parts[3])
    if other is None or other.letters != language.letters or not is_number(parts[1]) or not is_number(parts[2]):
        return False
    return plain_around(language, parts[1], parts[2], other, sort == "shadow")


def written_otherwise(text):
    """Texts with one sign or line otherwise."""
    lines = text.split("\n")
    found = [text + "\n", "\n" + text, text.replace(" ", "  ", 1), text.upper(), text[1:], text[:-1], text + " ",
             text + " 0",
             text.replace("ends", "end"), text.replace("letters", "letter"), text.replace("0", "1", 1), ""]
    for at in range(len(lines)):
        found += ["\n".join(lines[:at] + lines[at + 1:]), "\n".join(lines[:at] + lines[at:at + 1] + lines[at:])]
    for at, sign in enumerate(text):
        found += [text[:at] + other + text[at + 1:] for other in "0z\n " if other != sign]
    return found


class FindingsTest(PlainCase):
    def assert_like_plain(self, things):
        told = []
        for thing in things:
            before = repr(thing)
            told.append(finding_holds(thing))
            self.assertIs(told[-1], plain_holds(thing), thing)
            self.assertEqual(repr(thing), before)
        return told

    def assert_found(self, thing):
        self.assertIs(finding_holds(thing), True, thing)
        self.assertIs(finding_holds(thing=thing), True)
        for other in SORTS:
            if other != thing[0] and {other, thing[0]} != {"shadow", "core"}:
                self.assertIs(finding_holds((other, *thing[1:])), False)

    def test_judged_and_unjudged(self):
        for seed, (language, kind, paper) in enumerate(answered(201)):
            word = "judged" if paper[0] == kind else "unjudged"
            for written in (str(language), other_text(language, seed)):
                self.assert_found((word, written, kind, paper))
                for other in KINDS:
                    if other != kind:
                        self.assertIs(finding_holds((word, written, other, paper)), False)

    def test_other_machines(self):
        for seed, language in enumerate(found_languages(201)):
            written = other_text(language, seed)
            self.assertEqual(Language.read(written), language)
            self.assertNotEqual(written, str(language))

    def test_shadow_and_core(self):
        for seed, language in enumerate(found_languages(231, 8)[::2]):
            for width, top in SIZES[language.letters]:
                around, within = shadow(language, width, top), core(language, width, top)
                for written in (str(language), other_text(language, seed)):
                    self.assert_found(("shadow", written, width, top, other_text(around, seed)))
                    self.assert_found(("core", written, width, top, str(within)))
                judged = is_counting(language, width, top)
                self.assertIs(finding_holds(("core", str(language), width, top, str(around))), judged)
                self.assertIs(finding_holds(("shadow", str(language), width, top, str(within))), judged)

    def test_alike_and_common(self):
        told = 0
        for seed, language in enumerate(found_languages(231, 8)[::2]):
            for width, top in SIZES[language.letters]:
                pair = common_view(language, ~language, width, top)
                if pair is not None:
                    told += 1
                    self.assert_found(("alike", width, top, *pair))
                    self.assert_found(("common", str(language), other_text(~language, seed), width, top, *pair))
                    self.assertIs(finding_holds(("common", str(~language), str(language), width, top, *pair)), False)
                    self.assertIs(finding_holds(("common", str(~language), str(language), width, top, *pair[::-1])),
                                  True)
        self.assertGreater(told, 30)

    def test_with_one_thing_otherwise(self):
        told = []
        fillers = [2, 3, "b", "ab", "c", "forbidding", "counting", "judged", "alike", "shadow", str(SOME_B), str(NO_BB)]
        pair = common_view(TWO_B, ~TWO_B, 1, 1)
        for thing in (("judged", str(NO_BB), "forbidding", verdict(NO_BB, "forbidding")),
                      ("judged", str(SOME_B), "occurring", ("occurring", 1)),
                      ("judged", str(SOME_B), "counting", verdict(SOME_B, "counting")),
                      ("unjudged", str(EVEN), "counting", ("power", "", "b", "")),
                      ("unjudged", str(AHEAD), "occurring", verdict(AHEAD, "occurring")),
                      ("alike", 2, 1, "bab", "babab"), ("alike", 1, 2, "", ""),
                      ("shadow", str(TWO_B), 1, 1, str(SOME_B)),
                      ("core", str(TWO_B), 1, 1, str(finite("ab"))), ("shadow", str(SOME_B), 2, 1, str(SOME_B)),
                      ("common", str(TWO_B), str(~TWO_B), 1, 1, *pair)):
            self.assertIs(finding_holds(thing), True)
            for other in otherwise(thing, fillers):
                # The limits hold for numbers that findings give.
                numbers = [part for part in other if part.__class__ is int] if other.__class__ is tuple else []
                around = other.__class__ is tuple and other[:1] in (("shadow",), ("core",))
                if not around or max(numbers, default=0) < 4:
                    told += self.assert_like_plain([other])
        self.assertTrue(50 < sum(told) < len(told) - 1000)

    def test_machines_with_one_sign_otherwise(self):
        told = []
        for at, language in enumerate((NO_BB, EVEN, SOME_B)):
            sort = "judged" if is_of(language, "occurring") else "unjudged"
            paper = verdict(language, "occurring")
            around, within = str(shadow(language, 1)), str(core(language, 1, 2))
            for text in (str(language), other_text(language, at)):
                for written in written_otherwise(text):
                    told += self.assert_like_plain([
                        (sort, written, "occurring", paper), ("shadow", written, 1, 1, around),
                        ("shadow", around, 1, 1, written), ("core", written, 1, 2, within),
                        ("common", written, str(language), 1, 1, "ab", "ab"),
                        ("common", str(language), written, 1, 1, "ab", "ab")])
        self.assertTrue(0 < sum(told) < len(told))

    def test_wrong_findings(self):
        no, some = str(NO_BB), str(SOME_B)
        paper = verdict(NO_BB, "forbidding")
        wrong = [
            ("judged", no, "forbidding"), ("judged", no, "forbidding", paper, ()), ["judged", no, "forbidding", paper],
            ("judged", no, "Forbidding", paper), ("judged", no, None, paper), ("judged", NO_BB, "forbidding", paper),
            ("judged", no, ("forbidding",), paper), ("judged", no, "forbidding", list(paper)),
            ("judged", some, "forbidding", paper),
            ("unjudged", no, "forbidding", paper), ("judged", no, "occurring", paper),
            ("Judged", no, "forbidding", paper),
            ("judged", no.split("\n"), "forbidding", paper), ("judged", some, "forbidding",
                                                              ("splice", "", "b", "b", "", "a")),
            ("unjudged", some, "occurring", ("splice", "", "b", "b", "", "a")), ("judged", no, "forbidding", None),
            ("alike", 0, 1, "a", "a"), ("alike", 1, 0, "a", "a"), ("alike", True, 1, "a", "a"),
            ("alike", 1, True, "a", "a"),
            ("alike", 1, 1, "a", "b"), ("alike", 2, 1, "ab", "abb"), ("alike", 1, 1, "A", "A"),
            ("alike", 1, 1, "a b", "a b"),
            ("alike", "1", 1, "a", "a"), ("alike", 1, 1, ["a"], ["a"]), ("alike", 1, 1, None, None),
            ("alike", 1, 1, "a"),
            ("alike", 1, 1, "a", "a", "a"), ("alike", 1, 2, "a", "aa"), ("alike", 5, 1, "aaaa", "aaaaa"),
            ("alike", -1, 1, "", ""),
            ("shadow", some, 0, 1, some), ("shadow", some, 1, True, some), ("shadow", some, 1, 1, no),
            ("shadow", some, 1, 1),
            ("shadow", some, "1", 1, some), ("shadow", SOME_B, 1, 1, SOME_B), ("core", some, None, 1, some),
            ("core", some, 1, 1, no),
            ("shadow", some, 1, 1, str(having("abc", "b"))), ("core", str(having("abc", "b")), 1, 1, some),
            ("common", some, some, 1, 1, "b", "a"), ("common", some, some, 1, 1, "b", "c"),
            ("common", some, some, 1, 0, "b", "b"),
            ("common", some, str(having("abc", "b")), 1, 1, "b", "b"), ("common", some, some, 1, 1, "b", ["b"]),
            ("common", some, str(~SOME_B), 1, 1, "b", "b"), ("common", some, some, True, 1, "b", "b"),
            ("common", some, some, 1, 1, "b"),
            ("common", str(TWO_B), str(~TWO_B), 1, 2, "bb", "b"), ("common", str(TWO_B), str(~TWO_B), 1, 1, "b", "bb"),
        ]
        for thing in wrong:
            self.assertIs(finding_holds(thing), False, thing)

    def test_values_of_every_other_kind(self):
        for thing in [*odd_values(), *ODD_STRINGS, *SORTS]:
            self.assertIs(finding_holds(thing), False)
            for sort in SORTS:
                many = {"judged": 3, "unjudged": 3, "common": 6}.get(sort, 4)
                for other in ((sort, *[thing] * many), (sort, thing), [sort, *[thing] * many], (thing, *[sort] * many),
                              (sort, str(SOME_B), *[thing] * (many - 1)), (sort, *[thing] * (many - 1), str(SOME_B))):
                    self.assertIs(finding_holds(other), False)

    def test_texts_of_more_letters(self):
        self.assertIs(finding_holds(("alike", 1, 1, "abcdefg", "gfedcba")), True)
        self.assertIs(finding_holds(("alike", 2, 1, "abcdefg", "gfedcba")), False)
        self.assertIs(finding_holds(("alike", 10 ** 39, 10 ** 39, "zebra", "zebra")), True)
        self.assertIs(finding_holds(("alike", 10 ** 39, 1, "zebra", "zebr")), False)
        self.assertIs(finding_holds(("alike", 2, 10 ** 39, "ab" * 500, "ab" * 501)), False)

    def test_findings_about_what_was_returned(self):
        for language, kind, paper in answered(201)[::4]:
            if paper[0] not in KINDS and kind != "forbidding":
                for width, top in ((1, 1), (2, 2), (3, 1)):
                    found = twins(language, paper, width, top)
                    self.assert_found(("alike", width, top if kind == "counting" else 1, *found))
        for call, language in ((least_forbidding, SOME_B), (least_forbidding, EVEN), (least_forbidding, AHEAD)):
            with self.assertRaises(NoJudge) as caught:
                call(language)
            self.assert_found(("unjudged", str(language), "forbidding", caught.exception.paper))
        for language, width, top in ((EVEN, 2, 3), (AHEAD, 1, 4), (TWO_B, 3, 1)):
            with self.assertRaises(Unjudged) as caught:
                table_of(language, width, top)
            self.assert_found(("alike", width, top, *caught.exception.pair))
            self.assert_found(("common", str(language), str(~language), width, top, *caught.exception.pair))

    def test_machines_with_sixty_states(self):
        sixty = Language("ab", tuple(((state + 1) % 12, state) for state in range(12)), (3,))
        rows = "\n".join(f"{(state + 1) % 60} {state}" for state in range(60))
        written = f"letters ab\nends {' '.join(str(state) for state in range(60) if state % 12 == 3)}\n{rows}"
        self.assertEqual(Language.read(written), sixty)
        for kind in KINDS:
            self.assert_found(("unjudged", written, kind, verdict(sixty, kind)))
        self.assert_found(("shadow", written, 2, 2, str(shadow(sixty, 2, 2))))
        chain = having("ab", "b", 6)
        for letters, width, top in (("abc", 1, 16), ("abcd", 1, 7), ("ab", 3, 2)):
            language = lengths(letters, 12, (0, 5))
            around = shadow(language, width, top)
            self.assertIs(finding_holds(("shadow", other_text(language, 3), width, top, str(around))), True)
            self.assertIs(finding_holds(("core", other_text(language, 3), width, top, str(around))), False)
        self.assert_found(("judged", other_text(chain, 5), "counting", verdict(chain, "counting")))
        self.assert_found(("judged", other_text(beginning("ab", "abab"), 5), "forbidding",
                           verdict(beginning("ab", "abab"), "forbidding")))
        every = [text for text in texts("ab", 3)]
        self.assert_found(("judged", other_text(finite("ab", *every[:12]), 7), "occurring", ("occurring", 4)))


if __name__ == "__main__":
    unittest.main()
