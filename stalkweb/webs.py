"""Webs: what is one, its great rows, and where an assignment agrees."""

from stalkweb.arithmetic import NOUGHT
from stalkweb.errors import BadWeb, BadWhole, NoPlace, NoTie
from stalkweb.layout import difference, great
from stalkweb.leading import led
from stalkweb.numbers import check_field, fits

MOST_PLACES = 8
MOST_TIES = 12
MOST_ROOM = 3
MOST_FIGURE = 99


def is_room(room):
    """Whether a place or a tie may have this room."""
    return 0 <= room <= MOST_ROOM


def is_place(sizes, place):
    """Whether this is one of the places of these rooms."""
    return 0 <= place < len(sizes)


def is_short(field, number):
    """Whether this pair is a number of the field within the bounds of a web's numbers."""
    top, bottom = number
    return -MOST_FIGURE <= top <= MOST_FIGURE and bottom <= MOST_FIGURE and fits(field, number)


def is_table(field, table, room, length):
    """Whether this table may lead columns of this length to a tie of this room."""
    if len(table) != room or any([len(row) != length for row in table]):
        return False
    return all([is_short(field, number) for row in table for number in row])


def is_tie(field, sizes, tie):
    """Whether this is a tie between places of these rooms."""
    one, other, room, first, second = tie
    if not (is_place(sizes, one) and is_place(sizes, other) and is_room(room)):
        return False
    return is_table(field, first, room, sizes[one]) and is_table(field, second, room, sizes[other])


def is_column(field, room, column):
    """Whether this is a column of numbers of the room."""
    return len(column) == room and all([fits(field, number) for number in column])


def are_columns(field, rooms, columns):
    """Whether these are columns of numbers, one for each of the rooms."""
    if len(columns) != len(rooms):
        return False
    return all([is_column(field, room, column) for room, column in zip(rooms, columns)])


def check_web(web):
    """Refuses a web of no field, and what is no web."""
    if not is_web(web):
        raise BadWeb("places, ties or tables are out of their bounds")


def check_whole(web, whole):
    """Refuses what is no assignment of the web."""
    if not are_columns(web[0], web[1], whole):
        raise BadWhole("an assignment has a column of numbers for each place, of its room")


def check_place(web, place):
    """Refuses the number of no place."""
    if not is_place(web[1], place):
        raise NoPlace("there is no place of this number")


def check_tie(web, tie):
    """Refuses the number of no tie."""
    if not 0 <= tie < len(web[2]):
        raise NoTie("there is no tie of this number")


def is_web(web):
    """Whether this is a web; its field is one, or it is refused."""
    field, sizes, ties = web
    check_field(field)
    if not 1 <= len(sizes) <= MOST_PLACES or len(ties) > MOST_TIES:
        return False
    return all([is_room(room) for room in sizes]) and all([is_tie(field, sizes, tie) for tie in ties])


def great_rows(web):
    """The ties' rows in their order: they lead an assignment, strung together, to its differences."""
    check_web(web)
    return great(web)


def width_of(web):
    """All places' rooms together."""
    check_web(web)
    return sum(web[1])


def differences(web, whole):
    """For each tie what the second table makes of other's column less what the first makes of one's."""
    check_web(web)
    check_whole(web, whole)
    field, sizes, ties = web
    return [
        difference(field, led(field, first, whole[one]), led(field, second, whole[other]))
        for one, other, room, first, second in ties
    ]


def agrees(web, whole):
    """Whether the assignment agrees along all ties."""
    return all([number == NOUGHT for column in differences(web, whole) for number in column])
