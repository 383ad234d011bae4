"""The checks of arguments: each raises the error of its argument, or does nothing."""

from twobesides.bookforms import is_day_book
from twobesides.errors import InvalidBesides, InvalidBook, InvalidCompany, InvalidFacts, InvalidGoal, InvalidLot
from twobesides.errors import InvalidNamed, InvalidNumber, InvalidOne, InvalidOwn, InvalidPerson, InvalidScript
from twobesides.errors import InvalidScripts, InvalidSided, InvalidSidedScript, InvalidStock, InvalidSummary
from twobesides.errors import InvalidSupply, TooMany
from twobesides.forms import MOST_NAMED, MOST_PEOPLE, MOST_SCRIPTS, MOST_TIMES, MOST_TOLD_APART, are_facts_of
from twobesides.forms import are_scripts_of, are_ties_of, are_unlike_between, is_between, is_company_of, is_lot_of
from twobesides.forms import is_script_of, is_small_of, is_summary_of, is_supply_of
from twobesides.sidedforms import is_sided_company, is_sided_script


def check_named(named):
    """Refuse what is no number of named ones."""
    if not is_between(named, 1, MOST_NAMED):
        raise InvalidNamed("one to three people are named")


def check_few_named(named):
    """Refuse what is not one or two named ones."""
    if not is_between(named, 1, 2):
        raise InvalidNamed("one or two people are named here")


def check_company(named, company):
    """Refuse what is no number of named ones, or no company for it."""
    check_named(named)
    if not is_company_of(named, company):
        raise InvalidCompany("this is no company for so many named ones")


def check_script(named, script):
    """Refuse what is no number of named ones, or no script for it."""
    check_named(named)
    if not is_script_of(named, script):
        raise InvalidScript("this is no script for so many named ones")


def check_person(company, person):
    """Refuse who is not of the company."""
    if not is_between(person, 0, company[0] - 1):
        raise InvalidPerson("nobody in the company has this number")


def check_other(company, person, other):
    """Refuse who is not of the company, or the same person."""
    check_person(company, other)
    if person == other:
        raise InvalidPerson("nobody is paired with themselves")


def check_besides(named, company, besides):
    """Refuse what is no tuple of unlike people besides."""
    if not are_unlike_between(besides, named, company[0] - 1):
        raise InvalidBesides("these are no unlike people besides")


def check_number(number, least, most):
    """Refuse what is no integer from one to another one."""
    if not is_between(number, least, most):
        raise InvalidNumber(f"this is no integer from {least} to {most}")


def check_scripts(named, scripts):
    """Refuse what is no number of named ones, or no lot of scripts for it."""
    check_named(named)
    if not are_scripts_of(named, scripts, MOST_SCRIPTS):
        raise InvalidScripts("these are no one to six scripts for so many named ones")


def check_stock(named, stock):
    """Refuse what is no number of named ones, or no stock of one to six scripts for it."""
    check_named(named)
    if not are_scripts_of(named, stock, MOST_SCRIPTS):
        raise InvalidStock("these are no one to six scripts for so many named ones")


def check_goal(named, company, goal):
    """Refuse what is no company with as many people as a company."""
    if not is_company_of(named, goal) or goal[0] != company[0]:
        raise InvalidGoal("this is no company with as many people")


def check_small(named, small):
    """Refuse what is no number of named ones, or no small company for it."""
    check_named(named)
    if not is_small_of(named, small):
        raise InvalidCompany("this is no small company for so many named ones")


def check_lot(named, lot):
    """Refuse what is no number of named ones, or no lot of small companies for it."""
    check_named(named)
    if not is_lot_of(named, lot):
        raise InvalidLot("this is no lot of small companies for so many named ones")


def check_times(times):
    """Refuse what is no number of times."""
    check_number(times, 0, MOST_TIMES)


def check_many_besides(named, besides):
    """Refuse what is no number of people besides."""
    check_number(besides, 0, MOST_PEOPLE - named)


def check_few_besides(named, company, most):
    """Refuse a company with more people besides than so many."""
    if company[0] - named > most:
        raise TooMany(most)


def check_summary(named, summary):
    """Refuse what is no number of named ones, or no summary for it."""
    check_named(named)
    if not is_summary_of(named, summary):
        raise InvalidSummary("this is no summary for so many named ones")


def check_own(named, own):
    """Refuse what is no ascending tuple of pairs of named ones, the lesser first."""
    if not are_ties_of(named, own):
        raise InvalidOwn("these are no pairs of named ones, in ascending order")


def check_one(named, one):
    """Refuse who is no named one."""
    if not is_between(one, 0, named - 1):
        raise InvalidOne("no named one has this number")


def check_supply(named, supply):
    """Refuse what is no number of named ones, or no supply for it."""
    check_named(named)
    if not is_supply_of(named, supply):
        raise InvalidSupply("these are no one to six deeds for so many named ones")


def check_facts(named, facts):
    """Refuse what is no number of named ones, or no facts for it."""
    check_named(named)
    if not are_facts_of(named, facts):
        raise InvalidFacts("these are no one to four pairs of companies with as many people")


def check_told_apart(named, scripts):
    """Refuse what are no two or three scripts."""
    if not are_scripts_of(named, scripts, MOST_TOLD_APART) or len(scripts) < 2:
        raise InvalidScripts("these are no two or three scripts for so many named ones")


def check_start(named, start):
    """Refuse what is no number of named ones, or no company of the named ones alone."""
    check_company(named, start)
    if start[0] != named:
        raise InvalidCompany("somebody besides is in this company")


def check_sided(sided):
    """Refuse what is no sided company."""
    if not is_sided_company(sided):
        raise InvalidSided("this is no sided company")


def check_sided_script(deeds):
    """Refuse what is no sided script."""
    if not is_sided_script(deeds):
        raise InvalidSidedScript("these are no sided deeds, not more than twenty")


def check_book(book):
    """Refuse what is no day-book."""
    if not is_day_book(book):
        raise InvalidBook("this is no day-book")
