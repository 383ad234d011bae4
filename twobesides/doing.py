"""What comes of companies by scripts."""

from twobesides.bundles import company_done
from twobesides.checks import check_company, check_script


def done(named, company, script):
    """Return what comes of a company by a script."""
    check_company(named, company)
    check_script(named, script)
    return company_done(company, script)


def done_on(named, company, script):
    """Return the list of a company, and of what has come of it behind each item of a script."""
    check_company(named, company)
    check_script(named, script)
    companies = [company]
    for item in script:
        companies.append(company_done(companies[-1], (item,)))
    return companies
