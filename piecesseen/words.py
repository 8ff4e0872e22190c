"""The words of k letters: to which states they lead, and the tuples of some of them."""


def words_led(letters, rows, length):
    """For each word of so many letters, ascending, the states to which it leads from all states."""
    led = {"": tuple(range(len(rows)))}
    for _ in range(length):
        longer = {}
        for word, states in led.items():
            for at, letter in enumerate(letters):
                longer[word + letter] = tuple([rows[state][at] for state in states])
        led = longer
    return led


def words_of(letters, length):
    """All words of so many letters, ascending."""
    return list(words_led(letters, (), length))


def tuples_of(words, many):
    """All ascending tuples of so many of some ascending words, ascending."""
    found = [()]
    for _ in range(many):
        found = [chosen + (word,) for chosen in found for word in words if len(chosen) == 0 or chosen[-1] < word]
    return found
