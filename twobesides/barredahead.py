"""Lots ahead of scripts: what must be barred first, so that something stays barred."""

from twobesides.barred import barred_by, first_of_all, least_form, most_people
from twobesides.bundles import items_done
from twobesides.checks import check_lot, check_named, check_script, check_small
from twobesides.errors import InvalidScript
from twobesides.forms import are_scripts_of
from twobesides.places import every_bundle, first_company, numbers_in

MOST_STOCK = 4


def check_few_scripts(named, stock):
    """Refuse what is no number of named ones, or no tuple of one to four scripts for it."""
    check_named(named)
    if not are_scripts_of(named, stock, MOST_STOCK):
        raise InvalidScript("these are no one to four scripts for so many named ones")


def tables_up_to(named, script, most):
    """Return the list, for each number of people up to one, of the list of what comes of all companies by a script."""
    return [numbers_in(items_done(every_bundle(people), script)) for people in range(named, most + 1)]


def led_into(some, table):
    """Return the integer of the companies of which, by the numbers of a table, one that an integer tells comes."""
    signs = f"{some:b}".zfill(len(table))[::-1]
    return int("".join([signs[number] for number in table[::-1]]), 2)


def lot_ahead(named, script, lot):
    """Return the lot ahead of a script, for a lot."""
    check_script(named, script)
    check_lot(named, lot)
    most = most_people(named, lot)
    told = zip(barred_by(named, lot, most), tables_up_to(named, script, most))
    return least_form(named, [led_into(some, table) for some, table in told])


def does_lead(named, script, lot, mate):
    """Return whether a script leads from the first lot to the second one."""
    return company_fallen(named, script, lot, mate) is None


def company_fallen(named, script, lot, mate):
    """Return the least company clear of the first lot of which one comes not clear of the second one, or None."""
    check_script(named, script)
    check_lot(named, lot)
    check_lot(named, mate)
    most = most_people(named, mate)
    told = zip(barred_by(named, lot, most), barred_by(named, mate, most), tables_up_to(named, script, most))
    return first_of_all(named, [led_into(other, table) & ~some for some, other, table in told])


def shut_lot(named, stock, lot):
    """Return the pair of the lot shut by a stock, for a lot, and of its steps."""
    check_few_scripts(named, stock)
    check_lot(named, lot)
    most = most_people(named, lot)
    tables = [tables_up_to(named, script, most) for script in stock]
    barred = barred_by(named, lot, most)
    steps = 0
    led = led_on(barred, tables)
    while led != barred:
        barred = led
        steps = steps + 1
        led = led_on(barred, tables)
    return least_form(named, barred), steps


def led_on(barred, tables):
    """Return the list of the integers of companies that are barred, or come to such ones by some script."""
    led = []
    for index, some in enumerate(barred):
        told = some
        for table in tables:
            told = told | led_into(some, table[index])
        led.append(told)
    return led


def led_from(named, script, small):
    """Return the least company of which a small one comes by a script, or None."""
    check_script(named, script)
    check_small(named, small)
    behind = items_done(every_bundle(small[0]), script)
    some = behind.full
    for pair in behind.ties:
        know = behind.ties[pair]
        some = some & (know if pair in small[1] else behind.full ^ know)
    return first_company(small[0], some)
