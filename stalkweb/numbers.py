"""Fields and their numbers: fractions, or rests by a prime."""

from math import gcd

from stalkweb.arithmetic import added, flipped, is_nought, lowest, multiplied, negative
from stalkweb.errors import BadField, BadNumber, Nought

FIELDS = (
    0, 2, 3, 5, 7, 11, 13, 17, 19, 23, 29, 31, 37, 41, 43, 47, 53, 59, 61, 67, 71, 73, 79, 83, 89, 97,
)


def check_field(field):
    """Refuses what is no field."""
    # Here and below no number stands in the text: Python writes out none of very many figures.
    if not is_field(field):
        raise BadField("a field is 0 or a prime from 2 to 97")


def fits(field, number):
    """Whether this pair is a number of the field, which was looked at already."""
    top, bottom = number
    if field == 0:
        return bottom >= 1 and gcd(top, bottom) == 1
    return bottom == 1 and 0 <= top < field


def check_numbers(field, numbers):
    """Refuses pairs of which one is no number of the field, which was looked at already."""
    if not all([fits(field, number) for number in numbers]):
        raise BadNumber("a pair is no number of the field")


def is_field(field):
    """Whether this is a field: 0, for fractions, or a prime from 2 to 97."""
    return field in FIELDS


def is_number(field, number):
    """Whether this pair is a number of the field."""
    check_field(field)
    return fits(field, number)


def made(field, top, bottom=1):
    """The number that the division of two whole numbers makes."""
    check_field(field)
    if is_nought(field, bottom):
        raise Nought("the bottom is nought in the field")
    return lowest(field, top, bottom)


def plus(field, one, other):
    """The sum of two numbers."""
    check_field(field)
    check_numbers(field, (one, other))
    return added(field, one, other)


def times(field, one, other):
    """The product of two numbers."""
    check_field(field)
    check_numbers(field, (one, other))
    return multiplied(field, one, other)


def less(field, number):
    """The number that makes nought with this one."""
    check_field(field)
    check_numbers(field, (number,))
    return negative(field, number)


def over(field, number):
    """The number that makes 1 with this one."""
    check_field(field)
    check_numbers(field, (number,))
    if is_nought(field, number[0]):
        raise Nought("nought makes 1 with no number")
    return flipped(field, number)
