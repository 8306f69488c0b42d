"""Squares of assignments, and the section that is nearest to one."""

from stalkweb.elimination import solution, turned
from stalkweb.errors import NoSquares
from stalkweb.layout import cut, strung
from stalkweb.leading import led, paired
from stalkweb.numbers import check_field, check_numbers
from stalkweb.webs import check_web, check_whole
from stalkweb.whole import base_columns


def check_squares(field):
    """Refuses a prime."""
    if field != 0:
        raise NoSquares("by a prime squares tell nothing of what is near")


def square(field, whole):
    """The sum of the squares of all numbers of the columns."""
    check_field(field)
    check_squares(field)
    numbers = strung(whole)
    check_numbers(field, numbers)
    return paired(field, numbers, numbers)


def nearest(web, whole):
    """The section for which the square of the assignment less it is the least."""
    check_web(web)
    check_squares(web[0])
    check_whole(web, whole)
    field, sizes, ties = web
    base = base_columns(web)
    # The rest is square to each section just where base and section have the products of base and assignment.
    products = [led(field, base, column) for column in base]
    factors = solution(field, products, len(base), led(field, base, strung(whole)))
    return cut(led(field, turned(base, sum(sizes)), factors), sizes)
