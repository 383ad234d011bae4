"""What scripts make of summaries, and how many ties they leave."""

from twobesides.checks import check_own, check_script, check_summary
from twobesides.cycles import table_done
from twobesides.errors import InvalidTimes
from twobesides.forms import MOST_TIMES, is_between
from twobesides.kinds import count_pairs, pairs_of_kinds
from twobesides.kindtables import kinds_behind, knowing_behind, number_table, own_behind
from twobesides.places import count_ones
from twobesides.ties import pair_of


def summary_behind(named, summary, script):
    """Return what comes of a summary by a script."""
    check_summary(named, summary)
    check_script(named, script)
    return summary_led(named, summary, number_table(named, script))


def summary_after(named, summary, script, times):
    """Return what comes of a summary by a script done so many times."""
    check_summary(named, summary)
    check_script(named, script)
    if not is_between(times, 0, MOST_TIMES):
        raise InvalidTimes(f"this is no integer from 0 to {MOST_TIMES}")
    return summary_led(named, summary, table_done(number_table(named, script), times))


def summary_led(named, summary, table):
    """Return what a table makes of a summary."""
    own, numbers, tied = summary
    kinds = kinds_behind(named, table, own)
    told = [0] * len(kinds)
    for kind, many in zip(kinds, numbers):
        told[kind] = told[kind] + many
    pairs = pairs_of_kinds(named)
    left = {pair: 0 for pair in pairs}
    for (kind, other), (apart, known), many in zip(pairs, knowing_behind(named, table, own), tied):
        strangers = count_pairs(numbers, kind, other) - many
        behind = pair_of(kinds[kind], kinds[other])
        left[behind] = left[behind] + apart * strangers + known * many
    return own_behind(named, table, own), tuple(told), tuple(list(left.values()))


def tie_form(named, script, own):
    """Return the form of a script for some ties between named ones."""
    check_script(named, script)
    check_own(named, own)
    table = number_table(named, script)
    ones = tuple([count_ones(kind) for kind in kinds_behind(named, table, own)])
    return len(own_behind(named, table, own)), ones, tuple(knowing_behind(named, table, own))
