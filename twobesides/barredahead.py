"""Lots ahead of scripts: what must be barred first, so that something stays barred."""

from twobesides.barred import barred_by, least_form, most_people
from twobesides.checks import check_lot, check_named, check_script, check_small
from twobesides.errors import InvalidScript
from twobesides.forms import are_scripts_of
from twobesides.tables import people_tables
from twobesides.ties import all_companies

MOST_STOCK = 4


def check_few_scripts(named, stock):
    """Refuse what is no number of named ones, or no tuple of one to four scripts for it."""
    check_named(named)
    if not are_scripts_of(named, stock, MOST_STOCK):
        raise InvalidScript("these are no one to four scripts for so many named ones")


def behind_up_to(named, script, most):
    """Return the dict of what comes by a script of each company of at most so many people."""
    return {ahead: behind for people in range(named, most + 1) for ahead, behind in pairs_led(people, script)}


def pairs_led(people, script):
    """Return the list of the pairs of each company of so many people, and of what comes of it by a script."""
    companies = all_companies(people)
    table = people_tables(people, (script,))[0]
    return [(company, companies[number]) for company, number in zip(companies, table)]


def lot_ahead(named, script, lot):
    """Return the lot ahead of a script, for a lot."""
    check_script(named, script)
    check_lot(named, lot)
    most = most_people(named, lot)
    barred = barred_by(named, lot, most)
    behind = behind_up_to(named, script, most)
    return least_form(named, {company: True for company in behind if behind[company] in barred})


def does_lead(named, script, lot, mate):
    """Return whether a script leads from the first lot to the second one."""
    check_script(named, script)
    check_lot(named, lot)
    check_lot(named, mate)
    return first_fallen(named, script, lot, mate) is None


def company_fallen(named, script, lot, mate):
    """Return the least company clear of the first lot of which one comes not clear of the second one, or None."""
    check_script(named, script)
    check_lot(named, lot)
    check_lot(named, mate)
    return first_fallen(named, script, lot, mate)


def first_fallen(named, script, lot, mate):
    """Return what company_fallen does, of what has been checked."""
    most = most_people(named, mate)
    ahead = barred_by(named, lot, most)
    barred = barred_by(named, mate, most)
    behind = behind_up_to(named, script, most)
    fallen = [company for company in behind if behind[company] in barred and company not in ahead]
    return min(fallen, default=None)


def shut_lot(named, stock, lot):
    """Return the pair of the lot shut by a stock, for a lot, and of its steps."""
    check_few_scripts(named, stock)
    check_lot(named, lot)
    most = most_people(named, lot)
    behinds = [behind_up_to(named, script, most) for script in stock]
    barred = barred_by(named, lot, most)
    steps = 0
    led = led_on(barred, behinds)
    while len(led) > len(barred):
        barred = led
        steps = steps + 1
        led = led_on(barred, behinds)
    return least_form(named, barred), steps


def led_on(barred, behinds):
    """Return the dict of the companies that are barred, and of those that come to such ones by some script."""
    led = {company: True for company in barred}
    for behind in behinds:
        for company in behind:
            if behind[company] in barred:
                led[company] = True
    return led


def led_from(named, script, small):
    """Return the least company of which a small one comes by a script, or None."""
    check_script(named, script)
    check_small(named, small)
    return min([ahead for ahead, behind in pairs_led(small[0], script) if behind == small], default=None)
