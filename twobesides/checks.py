"""The checks of arguments: each raises the error of its argument, or does nothing."""

from twobesides.errors import InvalidBesides, InvalidCompany, InvalidGoal, InvalidLot, InvalidNamed, InvalidNumber
from twobesides.errors import InvalidPerson, InvalidScript, InvalidScripts, InvalidStock, TooMany
from twobesides.forms import MOST_NAMED, MOST_PEOPLE, MOST_SCRIPTS, MOST_TIMES, are_scripts_of, are_unlike_between
from twobesides.forms import is_between, is_company_of, is_lot_of, is_script_of, is_small_of


def check_named(named):
    """Refuse what is no number of named ones."""
    if not is_between(named, 1, MOST_NAMED):
        raise InvalidNamed("one to three people are named")


def check_few_named(named):
    """Refuse what is not one or two named ones."""
    if not is_between(named, 1, 2):
        raise InvalidNamed("one or two people are named here")


def check_company(named, company):
    """Refuse what is no number of named ones, or no company for it."""
    check_named(named)
    if not is_company_of(named, company):
        raise InvalidCompany("this is no company for so many named ones")


def check_script(named, script):
    """Refuse what is no number of named ones, or no script for it."""
    check_named(named)
    if not is_script_of(named, script):
        raise InvalidScript("this is no script for so many named ones")


def check_person(company, person):
    """Refuse who is not of the company."""
    if not is_between(person, 0, company[0] - 1):
        raise InvalidPerson("nobody in the company has this number")


def check_other(company, person, other):
    """Refuse who is not of the company, or the same person."""
    check_person(company, other)
    if person == other:
        raise InvalidPerson("nobody is paired with themselves")


def check_besides(named, company, besides):
    """Refuse what is no tuple of unlike people besides."""
    if not are_unlike_between(besides, named, company[0] - 1):
        raise InvalidBesides("these are no unlike people besides")


def check_number(number, least, most):
    """Refuse what is no integer from one to another one."""
    if not is_between(number, least, most):
        raise InvalidNumber(f"this is no integer from {least} to {most}")


def check_scripts(named, scripts):
    """Refuse what is no number of named ones, or no lot of scripts for it."""
    check_named(named)
    if not are_scripts_of(named, scripts, MOST_SCRIPTS):
        raise InvalidScripts("these are no one to six scripts for so many named ones")


def check_stock(named, stock):
    """Refuse what is no number of named ones, or no stock of one to six scripts for it."""
    check_named(named)
    if not are_scripts_of(named, stock, MOST_SCRIPTS):
        raise InvalidStock("these are no one to six scripts for so many named ones")


def check_goal(named, company, goal):
    """Refuse what is no company with as many people as a company."""
    if not is_company_of(named, goal) or goal[0] != company[0]:
        raise InvalidGoal("this is no company with as many people")


def check_small(named, small):
    """Refuse what is no number of named ones, or no small company for it."""
    check_named(named)
    if not is_small_of(named, small):
        raise InvalidCompany("this is no small company for so many named ones")


def check_lot(named, lot):
    """Refuse what is no number of named ones, or no lot of small companies for it."""
    check_named(named)
    if not is_lot_of(named, lot):
        raise InvalidLot("this is no lot of small companies for so many named ones")


def check_times(times):
    """Refuse what is no number of times."""
    check_number(times, 0, MOST_TIMES)


def check_many_besides(named, besides):
    """Refuse what is no number of people besides."""
    check_number(besides, 0, MOST_PEOPLE - named)


def check_few_besides(named, company, most):
    """Refuse a company with more people besides than so many."""
    if company[0] - named > most:
        raise TooMany(most)
