"""Papers that a language is not of a kind: words from which twins are made."""

from piecesseen.languages import is_text
from piecesseen.machines import end_flags
from piecesseen.powers import at_power, lead_of, paths_of, round_of

# For each sort the kind that it is against, its words by their names, which of them have powers, and its texts, in
# which a small letter stands for a word and a capital letter for the power of the word with the number n.
SORTS = {
    "splice": ("forbidding", "xyzwe", "e", ("xEy", "zEw", "xEw")),
    "again": ("occurring", "xesy", "e", ("xEsEy", "xEsEsEy")),
    "order": ("occurring", "xesty", "e", ("xEsEtEy", "xEtEsEy")),
    "power": ("counting", "xsy", "s", ("xSy", "xSsy")),
    "exchange": ("counting", "xesftuy", "ef", ("xEsFtEuFy", "xEuFtEsFy")),
}


def has_paper_form(letters, kind, thing):
    """Whether any value is made like a paper against a kind, be the texts answered as it says or not."""
    if not isinstance(thing, tuple) or len(thing) == 0 or not isinstance(thing[0], str) or thing[0] not in SORTS:
        return False
    against, names, repeated_names, _ = SORTS[thing[0]]
    words = thing[1:]
    if against != kind or len(words) != len(names) or not all([is_text(letters, word) for word in words]):
        return False
    return all([word != "" for name, word in zip(names, words) if name in repeated_names])


def texts_for(paper, many):
    """The texts of a paper for n."""
    _, names, _, plans = SORTS[paper[0]]
    words = {}
    for name, word in zip(names, paper[1:]):
        words[name] = word
        words[name.upper()] = word * many
    return tuple(["".join([words[sign] for sign in plan]) for plan in plans])


def states_for(plans, leads, tables, many):
    """The states to which the texts of a paper for n lead; `tables` has the paths of the words with powers."""
    found = []
    for plan in plans:
        state = 0
        for sign in plan:
            state = at_power(tables[sign], state, many) if sign in tables else leads[sign][state]
        found.append(state)
    return found


def are_twins(answers):
    """Whether the texts of a paper are answered as it says: three texts of a "splice", or two otherwise."""
    if len(answers) == 3:
        return answers == [True, True, False]
    return answers[0] != answers[1]


def first_twins(language, paper, start):
    """The least n from start on for which the texts of a paper are twins, or None if there is none."""
    _, names, repeated_names, plans = SORTS[paper[0]]
    leads = {name: lead_of(language, word) for name, word in zip(names, paper[1:])}
    tables = {name.upper(): paths_of(leads[name]) for name in repeated_names}
    flags = end_flags(len(language.rows), language.ends)
    first, period = round_of(list(tables.values()))
    for many in range(start, (first if first > start else start) + period):
        if are_twins([flags[state] for state in states_for(plans, leads, tables, many)]):
            return many
    return None


def is_against(language, kind, thing):
    """Whether any value is a paper that a language is not of a kind."""
    if not has_paper_form(language.letters, kind, thing):
        return False
    # From so many repetitions on all powers have come round: if there are twins, then for endlessly many n.
    return first_twins(language, thing, len(language.rows)) is not None
