"""Whether some text has given pieces at just so many places, or at so many and more.

A text of k letters or more is a walk over words of k - 1 letters: each of its pieces leads from the
word with which it begins to the word with which it ends. Pieces that stand at as many places as are
counted may stand at any more; they are called open here.
"""


def are_reached(first, pairs):
    """Whether all pieces of (piece, number) can be come to from the word at which the walk begins."""
    reached = {first: True}
    left = [pair[0] for pair in pairs]
    while left:
        near = [piece for piece in left if piece[:-1] in reached]
        if not near:
            return False
        for piece in near:
            reached[piece[1:]] = True
        left = [piece for piece in left if piece not in near]
    return True


def surplus_of(first, last, pairs):
    """For each word how much oftener a walk from first to last over these pieces comes to it than it goes on."""
    surplus = {first: 1}
    surplus[last] = surplus.get(last, 0) - 1
    for piece, number in pairs:
        begun = piece[:-1]
        ended = piece[1:]
        surplus[begun] = surplus.get(begun, 0) - number
        surplus[ended] = surplus.get(ended, 0) + number
    return surplus


def moves_from(word, extra):
    """The moves of a surplus: (other word, open piece, 1 or -1), by one more place of this piece or by one fewer.

    `extra` has for each open piece its number of further places.
    """
    onward = [(piece[1:], piece, 1) for piece in extra if piece[:-1] == word]
    back = [(piece[:-1], piece, -1) for piece in extra if piece[1:] == word and extra[piece] > 0]
    return onward + back


def last_moves(surplus, extra):
    """For each word to which a surplus can be moved the last move of a way there: (word ahead of it, piece, 1 or -1).

    It is None for the words that have a surplus.
    """
    moves = {word: None for word, number in surplus.items() if number > 0}
    waiting = list(moves)
    at = 0
    while at < len(waiting):
        here = waiting[at]
        for word, piece, change in moves_from(here, extra):
            if word not in moves:
                moves[word] = (here, piece, change)
                waiting.append(word)
        at += 1
    return moves


def is_levelled(surplus, open_pieces):
    """Whether further places of open pieces can take each surplus to where something is lacking.

    Each round takes one surplus on its way, and may lead an earlier one another way.
    """
    left = {word: number for word, number in surplus.items()}
    extra = {piece: 0 for piece in open_pieces}
    while any([number > 0 for number in left.values()]):
        moves = last_moves(left, extra)
        lacking = [word for word in moves if left[word] < 0]
        if not lacking:
            return False
        word = lacking[0]
        left[word] += 1
        while moves[word] is not None:
            word, piece, change = moves[word]
            extra[piece] += change
        left[word] -= 1
    return True


def is_walk(first, last, pairs, top):
    """Whether some walk from first to last goes over each of the pairs' pieces so often, or oftener from top on.

    There is one if all pieces are reached and each word is left as often as it is come to (Euler's ways).
    """
    open_pieces = [piece for piece, number in pairs if number == top]
    return are_reached(first, pairs) and is_levelled(surplus_of(first, last, pairs), open_pieces)
