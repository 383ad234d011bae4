"""Which values are companies and scripts, asked of any value."""

from twobesides.kinds import count_pairs, pairs_of_kinds

MOST_NAMED = 3
MOST_PEOPLE = 9
MOST_ITEMS = 30
MOST_DEPTH = 4
MOST_SCRIPTS = 6
MOST_SMALL = 5
MOST_SMALL_BESIDES = 3
MOST_BARRED = 600
MOST_TOLD_APART = 3
MOST_SUPPLY = 6
MOST_FACTS = 4
MOST_TIMES = 10 ** 30
MOST_OF_KIND = 10 ** 30
WORDS = ("know", "part", "turn")


def is_integer(value):
    """Return whether any value is an integer, which True and False are not."""
    return isinstance(value, int) and not isinstance(value, bool)


def is_between(value, least, most):
    """Return whether any value is an integer from one to another one."""
    return is_integer(value) and least <= value <= most


def is_tuple_of(value, many):
    """Return whether any value is a tuple with so many items."""
    return isinstance(value, tuple) and len(value) == many


def is_ascending(values):
    """Return whether each of the values is greater than the one ahead of it."""
    return all([values[index] < values[index + 1] for index in range(len(values) - 1)])


def are_unlike_between(value, least, most):
    """Return whether any value is a tuple of unlike integers from one to another one."""
    if not isinstance(value, tuple):
        return False
    if not all([is_between(part, least, most) for part in value]):
        return False
    return len(set(value)) == len(value)


def is_pair_of(people, value):
    """Return whether any value is a pair of so many people, the lesser one first."""
    if not is_tuple_of(value, 2):
        return False
    one, other = value
    return is_between(one, 0, people - 1) and is_between(other, one + 1, people - 1)


def are_ties_of(people, value):
    """Return whether any value is an ascending tuple of pairs of so many people."""
    if not isinstance(value, tuple):
        return False
    return all([is_pair_of(people, tie) for tie in value]) and is_ascending(value)


def are_people_of(people, value):
    """Return whether any value is an ascending tuple of some of so many people."""
    return are_unlike_between(value, 0, people - 1) and is_ascending(value)


def is_company_of(named, value):
    """Return whether any value is a company for so many named ones."""
    if not is_tuple_of(value, 2):
        return False
    people, ties = value
    return is_between(people, named, MOST_PEOPLE) and are_ties_of(people, ties)


def is_pair_with_as_many(named, value):
    """Return whether any value is a pair of companies with as many people."""
    if not is_tuple_of(value, 2):
        return False
    return is_company_of(named, value[0]) and is_company_of(named, value[1]) and value[0][0] == value[1][0]


def are_answers(value, many):
    """Return whether any value is a tuple of so many integers, each 0 or 1."""
    return is_tuple_of(value, many) and all([is_between(answer, 0, 1) for answer in value])


def are_two_named(named, one, other):
    """Return whether two values are two unlike named ones."""
    return is_between(one, 0, named - 1) and is_between(other, 0, named - 1) and one != other


def is_deed_of(named, value):
    """Return whether any value is a deed for so many named ones."""
    if is_tuple_of(value, 3) and value[0] == "pairs":
        return is_between(value[1], 0, named - 1) and are_answers(value[2], 6)
    if not is_tuple_of(value, 4) or not are_two_named(named, value[1], value[2]):
        return False
    if value[0] == "takes":
        return are_answers(value[3], 4)
    return value[0] == "tie" and value[3] in WORDS


def is_asking(named, value):
    """Return whether any value is a choice, whatever stands in the place of its scripts."""
    if not is_tuple_of(value, 5) or value[0] != "ask":
        return False
    return are_two_named(named, value[1], value[2])


def left_behind(named, value, depth, left):
    """Return how many of so many deeds and choices are left behind a script, which goes down to a depth.

    It is -1 for what is no such script, or has more of them in all; by -1 as what is left it stays so.
    """
    if not isinstance(value, tuple) or len(value) > left:
        return -1
    # All items are taken off first: so a value that holds itself ever so often is soon refused.
    left = left - len(value)
    for item in value:
        left = left_behind_item(named, item, depth, left)
    return left


def left_behind_item(named, item, depth, left):
    """Return how many are left behind what is in the scripts of an item, as left_behind does."""
    if is_deed_of(named, item):
        return left
    if depth == 0 or not is_asking(named, item):
        return -1
    left = left_behind(named, item[3], depth - 1, left)
    return left_behind(named, item[4], depth - 1, left)


def is_script_of(named, value):
    """Return whether any value is a script for so many named ones."""
    return left_behind(named, value, MOST_DEPTH, MOST_ITEMS) >= 0


def are_scripts_of(named, value, most):
    """Return whether any value is a tuple of one script to so many."""
    if not isinstance(value, tuple) or not 1 <= len(value) <= most:
        return False
    return all([is_script_of(named, script) for script in value])


def most_small(named):
    """Return how many people there are at most in a small company."""
    return min(MOST_SMALL, named + MOST_SMALL_BESIDES)


def is_small_of(named, value):
    """Return whether any value is a small company for so many named ones."""
    return is_company_of(named, value) and value[0] <= most_small(named)


def is_lot_of(named, value):
    """Return whether any value is an ascending tuple of small companies, not too many."""
    if not isinstance(value, tuple) or len(value) > MOST_BARRED:
        return False
    return all([is_small_of(named, small) for small in value]) and is_ascending(value)


def are_integers_to(value, most):
    """Return whether any value is a tuple of integers from 0, one for each of a list, at most what stands there."""
    if not is_tuple_of(value, len(most)):
        return False
    return all([is_between(number, 0, greatest) for number, greatest in zip(value, most)])


def is_summary_of(named, value):
    """Return whether any value is a summary for so many named ones."""
    if not is_tuple_of(value, 3):
        return False
    own, numbers, tied = value
    if not are_ties_of(named, own) or not are_integers_to(numbers, [MOST_OF_KIND] * (1 << named)):
        return False
    return are_integers_to(tied, [count_pairs(numbers, kind, other) for kind, other in pairs_of_kinds(named)])


def is_supply_of(named, value):
    """Return whether any value is a supply for so many named ones."""
    if not isinstance(value, tuple) or not 1 <= len(value) <= MOST_SUPPLY:
        return False
    return all([is_deed_of(named, deed) for deed in value])


def are_facts_of(named, value):
    """Return whether any value is facts for so many named ones."""
    if not isinstance(value, tuple) or not 1 <= len(value) <= MOST_FACTS:
        return False
    return all([is_pair_with_as_many(named, pair) for pair in value])
