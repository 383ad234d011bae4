"""Which values are sided companies and sided scripts, asked of any value."""

from twobesides.forms import are_answers, are_people_of, is_ascending, is_between, is_tuple_of

MOST_SIDED = 6
MOST_SIDED_DEEDS = 20
SIDED_WORDS = ("meets", "liked", "moods")


def is_sided_company(value):
    """Return whether any value is a sided company."""
    if not is_tuple_of(value, 3) or not is_between(value[0], 1, MOST_SIDED):
        return False
    people, knows, moods = value
    return are_sided_ties(people, knows) and are_people_of(people, moods)


def are_sided_ties(people, value):
    """Return whether any value is an ascending tuple of pairs of unlike people, in any order each."""
    if not isinstance(value, tuple):
        return False
    return all([is_sided_pair(people, pair) for pair in value]) and is_ascending(value)


def is_sided_pair(people, value):
    """Return whether any value is a pair of two unlike ones of so many people."""
    if not is_tuple_of(value, 2):
        return False
    return all([is_between(person, 0, people - 1) for person in value]) and value[0] != value[1]


def is_sided_deed(value):
    """Return whether any value is a sided deed."""
    if not is_tuple_of(value, 2):
        return False
    word, answers = value
    if word == "pairs":
        return are_answers(answers, 16)
    return word in SIDED_WORDS and are_answers(answers, 8)


def is_sided_script(value):
    """Return whether any value is a sided script."""
    if not isinstance(value, tuple) or len(value) > MOST_SIDED_DEEDS:
        return False
    return all([is_sided_deed(deed) for deed in value])
