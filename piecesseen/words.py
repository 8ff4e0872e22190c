"""The words of so many letters, and to which states they lead."""


def words_led(letters, rows, length):
    """For each word of so many letters, ascending, the states to which it leads from all states."""
    led = {"": tuple(range(len(rows)))}
    for _ in range(length):
        longer = {}
        for word, states in led.items():
            for at, letter in enumerate(letters):
                longer[word + letter] = tuple([rows[state][at] for state in states])
        led = longer
    return led
