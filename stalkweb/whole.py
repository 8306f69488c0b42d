"""Sections: the assignments that agree along all ties, their base, their count and their numbers."""

from stalkweb.elimination import null_columns, stepped, turned
from stalkweb.errors import BadWhole, NoEnd, NoSection
from stalkweb.layout import cut, great, strung
from stalkweb.leading import led
from stalkweb.numbers import fits
from stalkweb.webs import agrees, check_web, check_whole


def base_columns(web):
    """The base of sections, each one's columns one behind the other."""
    return null_columns(web[0], great(web), sum(web[1]))


def leads_of(web):
    """The leads of the great rows."""
    return [place for place, row in stepped(web[0], great(web), sum(web[1]))]


def sum_with(web, factors):
    """The section that the base makes with these factors."""
    field, sizes, ties = web
    return cut(led(field, turned(base_columns(web), sum(sizes)), factors), sizes)


def factors_in(web, whole):
    """The factors with which the base makes the section: its numbers at the places without a lead."""
    leads = leads_of(web)
    return [number for place, number in enumerate(strung(whole)) if place not in leads]


def free_count(web):
    """How many sections the base has."""
    return sum(web[1]) - len(leads_of(web))


def section_count(web):
    """The prime taken as often as the free count."""
    found = 1
    for _ in range(free_count(web)):
        found = found * web[0]
    return found


def check_section(web, whole):
    """Refuses what is no assignment of the web, then an assignment that is no section."""
    check_whole(web, whole)
    if not agrees(web, whole):
        raise NoSection("the assignment does not agree along all ties")


def check_end(web):
    """Refuses a web over fractions."""
    if web[0] == 0:
        raise NoEnd("over fractions sections are not counted")


def sections(web):
    """The base of sections."""
    check_web(web)
    return [cut(column, web[1]) for column in base_columns(web)]


def free(web):
    """The free count: how many sections the base has."""
    check_web(web)
    return free_count(web)


def sum_of(web, factors):
    """The section that the base makes with these factors."""
    check_web(web)
    if len(factors) != free_count(web) or not all([fits(web[0], factor) for factor in factors]):
        raise BadWhole("there is a number for each section of the base")
    return sum_with(web, factors)


def factors_of(web, whole):
    """The factors with which the base makes the section."""
    check_web(web)
    check_section(web, whole)
    return factors_in(web, whole)


def count(web):
    """By a prime how many sections there are."""
    check_web(web)
    check_end(web)
    return section_count(web)


def numbered(web, number):
    """The section of this number."""
    check_web(web)
    check_end(web)
    if not 0 <= number < section_count(web):
        raise NoSection("sections are numbered from 0 to one less than their count")
    factors = []
    rest = number
    # The base's first section has the lowest figure of the number written by the prime.
    for _ in range(free_count(web)):
        factors.append((rest % web[0], 1))
        rest = rest // web[0]
    return sum_with(web, factors)


def number_of(web, whole):
    """The number of the section."""
    check_web(web)
    check_end(web)
    check_section(web, whole)
    found = 0
    for top, bottom in reversed(factors_in(web, whole)):
        found = found * web[0] + top
    return found
