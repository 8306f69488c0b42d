"""Sayings: columns at some places, and whether a section goes on from them."""

from stalkweb.arithmetic import NOUGHT, negative
from stalkweb.elimination import solution, weights_against
from stalkweb.errors import BadSaying
from stalkweb.layout import cut, great, strung, tie_rooms
from stalkweb.leading import led
from stalkweb.webs import check_web, is_column, is_place


def check_sayings(web, sayings):
    """Refuses what are no sayings of the web."""
    field, sizes, ties = web
    ahead = -1
    for place, column in sayings:
        if not is_place(sizes, place) or place <= ahead or not is_column(field, sizes[place], column):
            raise BadSaying("sayings are columns of numbers, rising by the web's places")
        ahead = place


def said_numbers(web, sayings):
    """All places' numbers one behind the other, None where nothing was said."""
    found = [(None,) * room for room in web[1]]
    for place, column in sayings:
        found[place] = column
    return strung(found)


def parted(web, numbers):
    """Where nothing was said, the great rows of that alone, and what they all make of what was said."""
    rows = great(web)
    unsaid = [at for at, said in enumerate(numbers) if said is None]
    sums = led(web[0], rows, [NOUGHT if said is None else said for said in numbers])
    return unsaid, [[row[at] for at in unsaid] for row in rows], sums


def goes_on(web, sayings):
    """The section with the said columns, nought elsewhere at each place without a lead, or None."""
    check_web(web)
    check_sayings(web, sayings)
    numbers = list(said_numbers(web, sayings))
    unsaid, rows, sums = parted(web, numbers)
    column = solution(web[0], rows, len(unsaid), [negative(web[0], number) for number in sums])
    if column is None:
        return None
    for at, number in zip(unsaid, column):
        numbers[at] = number
    return cut(numbers, web[1])


def against(web, sayings):
    """Weights of the ties that speak against the sayings, or None."""
    check_web(web)
    check_sayings(web, sayings)
    unsaid, rows, sums = parted(web, said_numbers(web, sayings))
    weights = weights_against(web[0], rows, len(unsaid), sums)
    return None if weights is None else cut(weights, tie_rooms(web))
