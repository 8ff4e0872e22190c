"""Console: each command against the functions of the package, and each way in which a command can be none."""

import itertools
import re
import unittest

from papers_plain import KINDS
from piecesseen.console import Console
from piecesseen.errors import InvalidCommand, NoLanguage, OtherLetters
from piecesseen.languages import Language
from piecesseen.makers import finite, having
from piecesseen.verdicts import is_of, verdict
from piecesseen.views import view_of
from plain import ODD_STRINGS, PlainCase, odd_values, texts

MADE = {
    "or": lambda one, other: one | other, "and": lambda one, other: one & other, "less": lambda one, other: one - other,
    "then": lambda one, other: one + other,
}
TURNED = {"not": lambda one: ~one, "many": lambda one: one.starred(), "back": lambda one: one.turned()}
# The forms of commands, as far as single words tell them; a text in "set" and "have" is over a and b here.
RIGHT = ["set [a-z]{1,8} (a|b|ab)( (-|[ab]+))*", "have [a-z]{1,8} (a|b|ab) [ab]+ [1-6]",
         "(or|and|less|then)( [a-z]{1,8}){3}",
         "(not|many|back)( [a-z]{1,8}){2}", "text [a-z]{1,8} (-|[a-z]+)", "first [a-z]{1,8} [1-9]", "states [a-z]{1,8}",
         "judge [a-z]{1,8} (forbidding|occurring|counting)", "look [1-9] [1-9] (-|[a-z]+)"]


def dash(text):
    return text if text else "-"


def looked(view):
    """The answer for a view."""
    if view[0] == "short":
        return "short " + dash(view[1])
    return " ".join(["long", dash(view[1]), dash(view[2])] + [piece + "*" + str(number) for piece, number in view[3]])


def first_texts(language, many):
    """The answer with the first texts."""
    found = list(itertools.islice(language.in_order(), many))
    return " ".join(map(dash, found)) if found else "none"


class ConsoleCase(PlainCase):
    def assert_keeps(self, console, name, language):
        """The console keeps this language by this name, as far as its answers tell."""
        self.assertEqual(console.say(f"states {name}"), str(len(language)))
        self.assertEqual(console.say(f"first {name} 50"), first_texts(language, 50))
        for text in texts(language.letters, 3):
            self.assertEqual(console.say(f"text {name} {dash(text)}"), "yes" if text in language else "no")

    def filled(self):
        """A console, and the languages that it keeps."""
        console = Console()
        for command in ("set some ab - b ab", "have two ab b 2", "set few abc a", "have bb ab bb 1", "set empty ab",
                        "not all empty"):
            self.assertEqual(console.say(command), "ok")
        some = finite("ab", "", "b", "ab")
        return console, {"some": some, "two": having("ab", "b", 2), "few": finite("abc", "a"), "bb": having("ab", "bb"),
                         "empty": finite("ab"), "all": ~finite("ab")}

    def assert_all(self, console, kept):
        for name, language in kept.items():
            self.assert_keeps(console, name, language)


class CommandsTest(ConsoleCase):
    def test_set(self):
        console = Console()
        for letters, held in (("ab", ("",)), ("ab", ()), ("abc", ("a", "cab", "")), ("z", ("zzz", "zzz")),
                              ("bdxy", ("bdxy",)),
                              ("ab", ("a" * 12, "b")), ("ab", tuple(texts("ab", 2)))):
            command = " ".join(["set", "it", letters, *map(dash, held)])
            self.assertEqual(console.say(command), "ok")
            self.assert_keeps(console, "it", finite(letters, *held))
        self.assertEqual(console.say(command="set x ab ba"), "ok")
        self.assert_keeps(console, "x", finite("ab", "ba"))

    def test_have(self):
        console = Console()
        for letters, piece in (("ab", "b"), ("ab", "aba"), ("abc", "ca"), ("z", "zz")):
            for least in range(1, 7):
                self.assertEqual(console.say(f"have it {letters} {piece} {least}"), "ok")
                self.assert_keeps(console, "it", having(letters, piece, least))

    def test_languages_made_of_others(self):
        for word, make in MADE.items():
            for one, other in itertools.product(("some", "two", "bb", "empty", "all"), repeat=2):
                console, kept = self.filled()
                # Also in the place of a language of which it is made, or of another one.
                for name in ("fresh", one, other, "few"):
                    wanted = make(kept[one], kept[other])
                    self.assertEqual(console.say(f"{word} {name} {one} {other}"), "ok")
                    kept[name] = wanted
                    self.assertEqual(console.say(f"states {name}"), str(len(wanted)))
                    self.assertEqual(console.say(f"first {name} 9"), first_texts(wanted, 9))
        self.assert_all(console, kept)

    def test_languages_made_of_one(self):
        for word, make in TURNED.items():
            for one in ("some", "two", "few", "bb", "empty", "all"):
                console, kept = self.filled()
                for name in ("fresh", one, "few"):
                    wanted = make(kept[one])
                    self.assertEqual(console.say(f"{word} {name} {one}"), "ok")
                    kept[name] = wanted
                self.assert_all(console, kept)

    def test_text(self):
        console, kept = self.filled()
        for name, language in kept.items():
            for text in texts(language.letters, 4):
                self.assertEqual(console.say(f"text {name} {dash(text)}"), "yes" if text in language else "no")
        self.assertEqual(console.say("text bb " + "ab" * 900), "no")
        self.assertEqual(console.say("text bb " + "ab" * 900 + "b"), "yes")

    def test_first(self):
        console, kept = self.filled()
        for name, language in kept.items():
            for many in range(1, 51):
                self.assertEqual(console.say(f"first {name} {many}"), first_texts(language, many))
        self.assertEqual(console.say("first some 3"), "- b ab")
        self.assertEqual(console.say("first some 2"), "- b")
        self.assertEqual(console.say("first empty 50"), "none")
        self.assertEqual(console.say("first bb 3"), "bb abb bba")

    def test_states(self):
        console, kept = self.filled()
        for name, language in kept.items():
            self.assertEqual(console.say(f"states {name}"), str(len(language)))

    def test_judge(self):
        console, kept = self.filled()
        for name, language in kept.items():
            for kind in KINDS:
                paper = verdict(language, kind)
                if not is_of(language, kind):
                    wanted = f"no {paper[0]}"
                elif kind == "counting":
                    wanted = "yes"
                else:
                    wanted = f"yes {paper[1][0] if kind == 'forbidding' else paper[1]}"
                self.assertEqual(console.say(f"judge {name} {kind}"), wanted)
        for command, answer in (("judge bb forbidding", "no splice"), ("judge bb occurring", "yes 2"),
                                ("judge two counting", "yes"),
                                ("judge two occurring", "no again"), ("judge some forbidding", "yes 2"),
                                ("not x bb", "ok"),
                                ("judge x forbidding", "yes 2"), ("set aa a aa", "ok"), ("many even aa", "ok"),
                                ("judge even counting", "no power"), ("judge even forbidding", "no splice")):
            self.assertEqual(console.say(command), answer)

    def test_judge_about_languages_of_no_kind_and_of_all(self):
        console = Console()
        # Even: an even number of b. Ahead: some a stands ahead of some b, and between them stand letters c alone.
        for command in ("set a ab a", "set b ab b", "many as a", "then x as b", "then x x as", "then x x b",
                        "many even x",
                        "then even even as", "set c abc c", "many cs c", "set ab abc a", "set bb abc b",
                        "then ahead cs ab",
                        "then ahead ahead cs", "then ahead ahead bb", "then ahead ahead cs"):
            self.assertEqual(console.say(command), "ok")
        even = Language("ab", ((0, 1), (1, 0)), (0,))
        ahead = Language("abc", ((1, 3, 0), (3, 2, 1), (3, 3, 2), (3, 3, 3)), (2,))
        self.assert_keeps(console, "even", even)
        self.assert_keeps(console, "ahead", ahead)
        for name, language in (("even", even), ("ahead", ahead), ("as", ~having("ab", "b")), ("b", finite("ab", "b"))):
            for kind in KINDS:
                paper = verdict(language, kind)
                answer = console.say(f"judge {name} {kind}")
                self.assertEqual(answer.split(" ")[0], "yes" if is_of(language, kind) else "no")
                if paper[0] != kind:
                    self.assertEqual(answer, f"no {paper[0]}")
                elif kind == "forbidding":
                    self.assertEqual(answer, f"yes {paper[1][0]}")
                else:
                    self.assertEqual(answer, f"yes {paper[1]}" if kind == "occurring" else "yes")
        self.assertEqual([console.say(f"judge even {kind}") for kind in KINDS], ["no splice", "no again", "no power"])
        self.assertEqual(console.say("judge ahead counting"), "no exchange")

    def test_look(self):
        console = Console()
        for width in (1, 2, 3, 8, 12):
            for top in (1, 2, 20, 10 ** 30):
                for text in ("", "a", "ab", "abab", "zebra", "aaaaaaaaaaaa", "abcabcabc", "ab" * 900):
                    self.assertEqual(console.say(f"look {width} {top} {dash(text)}"), looked(view_of(width, top, text)))
        self.assertEqual(console.say("look 2 2 abab"), "long a b ab*2 ba*1")
        self.assertEqual(console.say("look 1 2 aaab"), "long - - a*2 b*1")
        self.assertEqual(console.say("look 3 1 ab"), "short ab")
        self.assertEqual(console.say("look 3 1 -"), "short -")
        self.assertEqual(console.say(f"look {10 ** 39} {10 ** 39} abcdefg"), "short abcdefg")

    def test_names(self):
        console = Console()
        for name in ("a", "z", "abcdefgh", "set", "look", "judge", "text", "counting", "ok", "none", "ab"):
            self.assertEqual(console.say(f"set {name} ab {name[:1] if name[:1] in 'ab' else '-'}"), "ok")
        for name in ("a", "z", "abcdefgh", "set", "look", "judge", "text", "counting", "ok", "none", "ab"):
            self.assertEqual(console.say(f"first {name} 5"), name[0] if name[0] in "ab" else "-")

    def test_two_consoles(self):
        one, other = Console(), Console()
        one.say("set x ab a")
        self.assert_error(NoLanguage, "name", "x", other.say, "states x")
        other.say("set x ab b")
        self.assertEqual((one.say("first x 2"), other.say("first x 2")), ("a", "b"))

    def test_kept_in_the_place_of_another_one(self):
        console = Console()
        console.say("set x ab a")
        console.say("have x abc c 1")
        self.assert_keeps(console, "x", having("abc", "c"))
        console.say("not x x")
        self.assert_keeps(console, "x", ~having("abc", "c"))
        console.say("then x x x")
        self.assert_keeps(console, "x", ~having("abc", "c"))


class RefusedTest(ConsoleCase):
    FORMS = ["set x ab a b", "set x ab", "set x ab -", "have x ab b 2", "or x some two", "and x some two",
             "less x some two",
             "then x some two", "not x some", "many x some", "back x some", "text some ab", "text some -",
             "first some 7",
             "states some", "judge some occurring", "look 2 3 abab", "look 2 3 -"]

    def assert_refused(self, console, kept, commands):
        for command in commands:
            self.assert_error(InvalidCommand, None, None, console.say, command)
            self.assert_error(NoLanguage, "name", "fresh", console.say, "states fresh")
        self.assert_all(console, kept)

    def test_words_left_out_or_more(self):
        console, kept = self.filled()
        wrong = []
        for command in self.FORMS:
            words = command.split(" ")
            wrong += [" ".join(words[:at] + words[at + 1:]) for at in range(len(words))]
            wrong += [" ".join(words[:at] + [more] + words[at:])
                      for at in range(len(words) + 1) for more in ("a", "-", "1", "x")]
        wrong = [command for command in wrong if not any(re.fullmatch(form, command) for form in RIGHT)]
        self.assertGreater(len(wrong), 200)
        self.assert_refused(console, kept, wrong)

    def test_blanks_and_other_signs(self):
        console, kept = self.filled()
        wrong = []
        for command in self.FORMS:
            wrong += [" " + command, command + " ", command.replace(" ", "  ", 1), command.replace(" ", "\n", 1),
                      command + "\n",
                      command.replace(" ", "\t", 1), command.upper(), command.title(), command + "  a"]
        self.assert_refused(console, kept, wrong + ["", " ", "-", "set", "say x", "let x ab a", "Set x ab a", "0",
                                                    "some"])

    def test_names_that_are_none(self):
        console, kept = self.filled()
        wrong = []
        for name in ("A", "x1", "abcdefghi", "-", "1", "x_y", "x-y", "sOme", "some\n", "{", "`"):
            wrong += [f"set {name} ab a", f"have {name} ab b 2", f"text {name} a", f"first {name} 2", f"states {name}",
                      f"judge {name} counting"]
            wrong += [f"{word} {names}" for word in MADE
                      for names in (f"{name} some two", f"x {name} two", f"x some {name}", f"x gone {name}")]
            wrong += [f"{word} {names}" for word in TURNED for names in (f"{name} some", f"x {name}")]
        self.assert_refused(console, kept, wrong)

    def test_letters_that_are_none(self):
        console, kept = self.filled()
        wrong = [f"{form} {letters} {more}".strip() for letters in ("ba", "aa", "abcde", "A", "-", "a1", "1", "aB",
                                                                    "ab-")
                 for form, more in (("set x", "a"), ("set x", ""), ("have x", "a 1"))]
        self.assert_refused(console, kept, wrong)

    def test_numbers_that_are_none(self):
        console, kept = self.filled()
        wrong = []
        for number in ("0", "-1", "01", "+1", "1.0", "a", "-", "one", "1_0", "x1", "1a", "00"):
            wrong += [f"have x ab b {number}", f"first some {number}", f"look {number} 1 ab", f"look 1 {number} ab"]
        wrong += ["have x ab b 7", "have x ab b 10", "first some 51", "first some 100", "first some 5000",
                  f"first some {10 ** 39}",
                  f"have x ab b {10 ** 39}"]
        self.assert_refused(console, kept, wrong)
        self.assertEqual(console.say("first some 50"), "- b ab")
        self.assertEqual(console.say("have some ab b 6"), "ok")

    def test_kinds_that_are_none(self):
        console, kept = self.filled()
        self.assert_refused(console, kept, [f"judge some {kind}" for kind in (
            "Counting", "count", "forbid", "all", "-", "judged", "power", "countings", "1", "occurring2")])

    def test_texts_that_are_none(self):
        console, kept = self.filled()
        wrong = []
        for text in ("A", "a1", "aB", "--", "a-", "-a", "a*", "{", "1", "a\nb"):
            wrong += [f"set x ab {text}", f"set x ab a {text} b", f"have x ab {text} 2", f"text some {text}",
                      f"text gone {text}",
                      f"look 1 1 {text}"]
        wrong += ["set x ab c", "set x ab a b ac", "have x ab c 1", "have x ab abc 1", "have x ab - 1", "have x ab - 7"]
        self.assert_refused(console, kept, wrong)

    def test_names_that_keep_no_language(self):
        console, kept = self.filled()
        for word in MADE:
            for one, other, name in (("gone", "two", "gone"), ("some", "gone", "gone"), ("gone", "lost", "gone"),
                                     ("lost", "gone", "lost"), ("gone", "gone", "gone"), ("few", "gone", "gone")):
                for fresh in ("fresh", "some", "gone"):
                    self.assert_error(NoLanguage, "name", name, console.say, f"{word} {fresh} {one} {other}")
        for word in TURNED:
            self.assert_error(NoLanguage, "name", "gone", console.say, f"{word} some gone")
            self.assert_error(NoLanguage, "name", "gone", console.say, f"{word} gone gone")
        for command in ("text gone a", "text gone -", "text gone zebra", "first gone 3", "states gone",
                        "judge gone counting"):
            self.assert_error(NoLanguage, "name", "gone", console.say, command)
        self.assert_error(NoLanguage, "name", "fresh", console.say, "states fresh")
        self.assert_all(console, kept)

    def test_a_text_over_other_letters(self):
        console, kept = self.filled()
        self.assert_refused(console, kept, ["text some c", "text some abc", "text few d", "text all zebra"])
        self.assertEqual(console.say("text few c"), "no")

    def test_other_letters(self):
        console, kept = self.filled()
        for word in MADE:
            for names in ("fresh some few", "fresh few some", "some some few", "few few some"):
                self.assert_error(OtherLetters, None, None, console.say, f"{word} {names}")
        self.assert_error(NoLanguage, "name", "fresh", console.say, "states fresh")
        self.assert_all(console, kept)

    def test_values_of_every_other_kind(self):
        console, kept = self.filled()
        wrong = [*odd_values(), *ODD_STRINGS, ["set", "x", "ab"], ("states", "some"), b"states some", None]
        self.assert_refused(console, kept, wrong)
        self.assert_error(InvalidCommand, None, None, console.say, command=None)

    def test_an_empty_console(self):
        console = Console()
        self.assert_error(NoLanguage, "name", "some", console.say, "states some")
        self.assertEqual(console.say("look 1 1 a"), "long - - a*1")
        self.assertIsInstance(finite("ab"), Language)


if __name__ == "__main__":
    unittest.main()
