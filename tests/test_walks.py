"""view_holds where numbers of pieces and cut-off numbers go together in many ways, beside sums over sets of words."""

import itertools
import random
import unittest

from judged import words
from piecesseen.views import view_holds, view_of
from piecesseen.walks import is_levelled


def subsets(held):
    return itertools.chain.from_iterable(itertools.combinations(held, many) for many in range(len(held) + 1))


def can_be_levelled(surplus, open_pieces):
    """Whether no set of words that open pieces do not leave has a surplus on the whole (Hall's condition)."""
    if sum(surplus.values()) != 0:
        return False
    for held in subsets(list(surplus)):
        if all(piece[1:] in held for piece in open_pieces if piece[:-1] in held):
            if sum(surplus[word] for word in held) > 0:
                return False
    return True


def is_connected(first, pieces):
    """Whether the pieces hang together with the first word, in whatever direction."""
    reached = {first}
    for _ in pieces:
        for piece in pieces:
            if reached & {piece[:-1], piece[1:]}:
                reached |= {piece[:-1], piece[1:]}
    return all(piece[:-1] in reached for piece in pieces)


def plain_holds(letters, width, top, first, last, counts):
    """Whether some text has these first and last letters and these numbers, by Euler's and Hall's conditions."""
    surplus = {word: (word == first) - (word == last) for word in words(letters, width - 1)}
    for piece, number in counts:
        surplus[piece[1:]] += number
        surplus[piece[:-1]] -= number
    open_pieces = [piece for piece, number in counts if number == top]
    return is_connected(first, [piece for piece, _ in counts]) and can_be_levelled(surplus, open_pieces)


class LevelledTest(unittest.TestCase):
    def test_a_surplus_makes_room_for_another_one(self):
        for names in itertools.permutations("abcd"):
            a, b, c, d = names
            for order in itertools.permutations([a + c, a + d, b + c]):
                surplus = {word: {a: 1, b: 1, c: -1, d: -1}[word] for word in sorted(names)}
                self.assertIs(is_levelled(surplus, list(order)), True)
                self.assertIs(is_levelled({a: 1, b: 1, c: -2, d: 0}, list(order)), True)
                self.assertIs(is_levelled({a: 1, b: 1, c: 0, d: -2}, list(order)), False)

    def test_against_sums_over_sets_of_words(self):
        chance = random.Random(101)
        told = []
        for _ in range(3000):
            names = "abcdef"[:chance.randint(2, 6)]
            surplus = {word: chance.randint(-3, 3) for word in names}
            surplus[names[0]] -= sum(surplus.values())
            open_pieces = [one + other for one, other in itertools.product(names, repeat=2)
                           if chance.random() < chance.choice((0.1, 0.3))]
            before = dict(surplus)
            told.append(is_levelled(surplus, open_pieces))
            self.assertIs(told[-1], can_be_levelled(surplus, open_pieces))
            self.assertEqual(surplus, before)
        self.assertTrue(300 < sum(told) < 2700)


class WalksTest(unittest.TestCase):
    def test_views_with_great_numbers(self):
        chance = random.Random(102)
        told = []
        for letters, width in (("abcd", 2), ("ab", 3), ("abc", 2), ("ab", 4)):
            for _ in range(600):
                top = chance.randint(1, 7)
                text = "".join(chance.choice(letters + letters[0] * 3) for _ in range(chance.randint(width, 40)))
                _, first, last, counts = view_of(width, top, text)
                self.assertIs(view_holds(letters, width, top, ("long", first, last, counts)), True)
                changed = list(counts)
                for _ in range(chance.randint(1, 3)):
                    at = chance.randrange(len(changed))
                    changed[at] = (changed[at][0], chance.randint(1, top))
                first = chance.choice([first, last, chance.choice(words(letters, width - 1))])
                answer = view_holds(letters, width, top, ("long", first, last, tuple(changed)))
                self.assertIs(answer, plain_holds(letters, width, top, first, last, changed))
                told.append(answer)
        self.assertTrue(100 < sum(told) < len(told) - 100)

    def test_pieces_in_parts_that_do_not_hang_together(self):
        for counts, wanted in (((("aa", 2), ("bb", 2)), False), ((("aa", 2), ("ab", 1), ("bb", 2)), False),
                               ((("aa", 2), ("ab", 1), ("ba", 1), ("bb", 2)), True),
                               ((("aa", 2), ("bc", 2), ("cb", 2)), False), ((("aa", 1), ("ab", 1), ("bc", 1), ("ca", 1)), True)):
            self.assertIs(view_holds("abc", 2, 2, ("long", "a", "a", counts)), wanted)


if __name__ == "__main__":
    unittest.main()
