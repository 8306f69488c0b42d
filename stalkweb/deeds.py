"""What a book keeps at one time, and what each deed makes of it."""

from stalkweb.errors import (
    BadColumn, BadDeed, BadEnd, BadRoom, BadTable, Full, NoPlace, NoTie, NotSaid, Tied,
)
from stalkweb.texts import DEED_THINGS
from stalkweb.webs import MOST_PLACES, MOST_TIES, is_room, is_short, is_table


class State:
    """Places, ties and sayings by their numbers; a deed leaves it as it is and makes another one."""

    def __init__(self):
        self.rooms = {}
        # Tuples (one, other, room, first, second), by the places' numbers.
        self.bonds = {}
        self.columns = {}
        self.coming_place = 1
        self.coming_tie = 1


def copied(state):
    """Another state with the same in it."""
    found = State()
    found.rooms = dict(state.rooms)
    found.bonds = dict(state.bonds)
    found.columns = dict(state.columns)
    found.coming_place = state.coming_place
    found.coming_tie = state.coming_tie
    return found


def check_standing(state, place):
    """Refuses the number of no place."""
    if place not in state.rooms:
        raise NoPlace("there is no place of this number")


def check_bond(state, tie):
    """Refuses the number of no tie."""
    if tie not in state.bonds:
        raise NoTie("there is no tie of this number")


def check_room(room):
    """Refuses what is no room."""
    if not is_room(room):
        raise BadRoom("a room is 0 to 3")


def check_table(field, table, room, length):
    """Refuses a table that may not lead columns of this length to a tie of this room."""
    if not is_table(field, table, room, length):
        raise BadTable("a table does not fit its rooms, or its numbers their bounds")


def check_saying(field, rooms, place, column):
    """Refuses the number of no place, and a column that may not be said of it; rooms are by places."""
    if place not in rooms:
        raise NoPlace("there is no place of this number")
    if len(column) != rooms[place] or not all([is_short(field, number) for number in column]):
        raise BadColumn("a column does not fit its place's room, or its numbers their bounds")


def with_place(field, state, deed):
    """The state with another place."""
    _, room = deed
    check_room(room)
    if len(state.rooms) >= MOST_PLACES:
        raise Full("there are at most 8 places")
    number = state.coming_place
    found = copied(state)
    found.rooms[number] = room
    found.coming_place = number + 1
    return found, number


def without_place(field, state, deed):
    """The state without a place, and without what was said of it."""
    _, place = deed
    check_standing(state, place)
    if any([place in tie[:2] for tie in state.bonds.values()]):
        raise Tied("a tie stands at the place")
    found = copied(state)
    del found.rooms[place]
    found.columns.pop(place, None)
    return found, None


def with_tie(field, state, deed):
    """The state with another tie."""
    _, one, other, room, first, second = deed
    check_standing(state, one)
    check_standing(state, other)
    check_room(room)
    check_table(field, first, room, state.rooms[one])
    check_table(field, second, room, state.rooms[other])
    if len(state.bonds) >= MOST_TIES:
        raise Full("there are at most 12 ties")
    number = state.coming_tie
    found = copied(state)
    found.bonds[number] = (one, other, room, first, second)
    found.coming_tie = number + 1
    return found, number


def without_tie(field, state, deed):
    """The state without a tie."""
    _, tie = deed
    check_bond(state, tie)
    found = copied(state)
    del found.bonds[tie]
    return found, None


def with_table(field, state, deed):
    """The state with another table at an end of a tie."""
    _, tie, end, table = deed
    check_bond(state, tie)
    if end not in (0, 1):
        raise BadEnd("an end of a tie is 0 or 1")
    one, other, room, first, second = state.bonds[tie]
    check_table(field, table, room, state.rooms[other if end else one])
    found = copied(state)
    found.bonds[tie] = (one, other, room, first, table) if end else (one, other, room, table, second)
    return found, None


def with_saying(field, state, deed):
    """The state with a column said of a place."""
    _, place, column = deed
    check_saying(field, state.rooms, place, column)
    found = copied(state)
    found.columns[place] = column
    return found, None


def without_saying(field, state, deed):
    """The state without what was said of a place."""
    _, place = deed
    check_standing(state, place)
    if place not in state.columns:
        raise NotSaid("nothing was said of the place")
    found = copied(state)
    del found.columns[place]
    return found, None


MAKERS = {
    "place": with_place,
    "shut": without_place,
    "tie": with_tie,
    "cut": without_tie,
    "change": with_table,
    "say": with_saying,
    "unsay": without_saying,
}


def done(field, state, deed):
    """What the deed makes of the state, and the number that is told of a new place or tie, else None."""
    if not deed or deed[0] not in DEED_THINGS or len(deed) != 1 + len(DEED_THINGS[deed[0]]):
        raise BadDeed("there is no deed of this text and with so many things")
    maker = MAKERS[deed[0]]
    return maker(field, state, deed)
