"""Scripts that one deed can stand for."""

from twobesides.bundles import company_done
from twobesides.checks import check_script
from twobesides.forms import WORDS
from twobesides.tables import script_tables


def one_deed(named, script):
    """Return any deed that by itself is alike to a script, or None."""
    check_script(named, script)
    deeds = likely_deeds(named, script)
    tables = script_tables(named, [script] + [(deed,) for deed in deeds])
    if tables[0] in tables[1:]:
        return deeds[tables[1:].index(tables[0])]
    return None


def likely_deeds(named, script):
    """Return the list of the deeds that could do the same as a script: no others can."""
    deeds = [("pairs", doer, pairs_answers(named, script, doer)) for doer in range(named)]
    for one in range(named):
        for other in range(named):
            if one != other:
                deeds.append(("takes", one, other, takes_answers(named, script, one, other)))
                deeds = deeds + [("tie", one, other, word) for word in WORDS]
    return deeds


def pairs_answers(named, script, doer):
    """Return what a "pairs" would have to answer: it is seen at two people besides."""
    one, other = named, named + 1
    answers = []
    for know in ((), ((one, other),)):
        for many in range(3):
            known = ((doer, one), (doer, other))[:many]
            behind = company_done((named + 2, known + know), script)
            answers.append(1 if (one, other) in behind[1] else 0)
    return tuple(answers)


def takes_answers(named, script, one, other):
    """Return what a "takes" would have to answer: it is seen at one person besides."""
    answers = []
    for own in ((), ((one, named),)):
        for theirs in ((), ((other, named),)):
            behind = company_done((named + 1, own + theirs), script)
            answers.append(1 if (one, named) in behind[1] else 0)
    return tuple(answers)
