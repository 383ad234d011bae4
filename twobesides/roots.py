"""How often a script is to be done, to do the same as another one."""

from math import gcd, lcm

from twobesides.checks import check_script
from twobesides.cycles import path_of, table_done
from twobesides.tables import script_tables


def times_to(named, script, other_script):
    """Return the least number of times by which the first script does the same as the second one, or None."""
    check_script(named, script)
    check_script(named, other_script)
    table, goal = script_tables(named, (script, other_script))
    rows = []
    for number in range(len(table)):
        path, back = path_of(table, number)
        if goal[number] not in path:
            return None
        at = path.index(goal[number])
        if at < back:
            # What is met ahead of the round is met once: no other number of times can do.
            return at if table_done(table, at) == goal else None
        rows.append((at, len(path) - back))
    return least_common(sorted(set(rows)))


def least_common(rows):
    """Return the least integer that is, for each pair (least, step), the least one or some steps more, or None."""
    common = max([least for least, _ in rows])
    whole = 1
    for least, step in rows:
        tried = [common + whole * many for many in range(step // gcd(step, whole))]
        common = min([number for number in tried if (number - least) % step == 0], default=None)
        if common is None:
            return None
        whole = lcm(whole, step)
    return common
