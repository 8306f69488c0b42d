"""Ties drawn together to one place, and places put between on a tie."""

from stalkweb.errors import Full, NoWay
from stalkweb.leading import joined, led, still_table, undone
from stalkweb.webs import check_tie, check_web, is_web
from stalkweb.whole import check_section


def table_forth(web, tie):
    """The table of the going along the tie forth; refuses a tie that can't be drawn together."""
    field, sizes, ties = web
    one, other, room, first, second = ties[tie]
    back = undone(field, second, sizes[other])
    if one == other or back is None:
        raise NoWay(tie)
    return joined(field, back, first, sizes[one])


def number_without(place, gone):
    """The number of a place when another one is gone."""
    return place - 1 if place > gone else place


def check_bounds(web):
    """Refuses what was made of a web and is none, which is so by its bounds alone."""
    if not is_web(web):
        raise Full("a web would have more places or ties, or greater numbers, than one may have")


def drawn_end(web, tie, forth, place, table):
    """Where an end of another tie stands when this tie is drawn together, and its table there."""
    one, other = web[2][tie][:2]
    if place == other:
        return number_without(one, other), joined(web[0], table, forth, web[1][one])
    return number_without(place, other), table


def drawn_web(web, tie, forth):
    """The web with the tie drawn together, along which the table leads forth."""
    field, sizes, ties = web
    gone = ties[tie][1]
    found = []
    for one, other, room, first, second in ties[:tie] + ties[tie + 1:]:
        start, table = drawn_end(web, tie, forth, one, first)
        end, table_there = drawn_end(web, tie, forth, other, second)
        found.append((start, end, room, table, table_there))
    return (field, sizes[:gone] + sizes[gone + 1:], tuple(found))


def drawn(web, tie):
    """The web without the tie and its other place: what stood there stands at its one place."""
    check_web(web)
    check_tie(web, tie)
    found = drawn_web(web, tie, table_forth(web, tie))
    check_bounds(found)
    return found


def drawn_back(web, tie, whole):
    """The section of the web that this section of the drawn one comes of."""
    check_web(web)
    check_tie(web, tie)
    forth = table_forth(web, tie)
    found = drawn_web(web, tie, forth)
    check_bounds(found)
    check_section(found, whole)
    one, other = web[2][tie][:2]
    column = led(web[0], forth, whole[number_without(one, other)])
    return whole[:other] + [column] + whole[other:]


def between(web, tie):
    """The web with a new last place on the tie, and a new last tie from there on."""
    check_web(web)
    check_tie(web, tie)
    field, sizes, ties = web
    one, other, room, first, second = ties[tie]
    place, still = len(sizes), still_table(room)
    there = (one, place, room, first, still)
    onward = (place, other, room, still, second)
    found = (field, sizes + (room,), ties[:tie] + (there,) + ties[tie + 1:] + (onward,))
    check_bounds(found)
    return found
