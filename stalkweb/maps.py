"""Maps from a web to another one, what they do to assignments, and two of them one behind the other."""

from stalkweb.errors import BadShape, NoMap
from stalkweb.layout import tie_rooms
from stalkweb.leading import joined, led
from stalkweb.numbers import check_field
from stalkweb.tables import behind
from stalkweb.webs import check_web, check_whole, is_column


def are_alike(web, other):
    """Whether two webs have one field, as many places, and ties between the same places."""
    if web[0] != other[0] or len(web[1]) != len(other[1]):
        return False
    return [tie[:2] for tie in web[2]] == [tie[:2] for tie in other[2]]


def is_between(field, table, length, room):
    """Whether the table leads columns of this length to columns of this room; its numbers have no bounds."""
    return len(table) == room and all([is_column(field, length, row) for row in table])


def are_between(field, tables, lengths, rooms):
    """Whether there is a table for each length, and it leads columns of it to columns of the room."""
    if len(tables) != len(lengths):
        return False
    return all([is_between(field, table, length, room) for table, length, room in zip(tables, lengths, rooms)])


def same_both_ways(web, other, tables, tie_tables):
    """Whether it is the same at each end of each tie to go along the one web's or along the other web's."""
    field, sizes, ties = web
    for tie, tie_other, across in zip(ties, other[2], tie_tables):
        for place, table, table_other in ((tie[0], tie[3], tie_other[3]), (tie[1], tie[4], tie_other[4])):
            room = sizes[place]
            if joined(field, across, table, room) != joined(field, table_other, tables[place], room):
                return False
    return True


def maps_over(web, other, tables, tie_tables):
    """Whether the tables are a map from the web to the other one, both of which were looked at."""
    if not are_alike(web, other):
        return False
    if not are_between(web[0], tables, web[1], other[1]):
        return False
    if not are_between(web[0], tie_tables, tie_rooms(web), tie_rooms(other)):
        return False
    return same_both_ways(web, other, tables, tie_tables)


def is_map(web, other, tables, tie_tables):
    """Whether the tables of places and ties are a map from the web to the other one."""
    check_web(web)
    check_web(other)
    return maps_over(web, other, tables, tie_tables)


def mapped(web, other, tables, tie_tables, whole):
    """The assignment of the other web to which the map leads one of the web."""
    check_web(web)
    check_web(other)
    if not maps_over(web, other, tables, tie_tables):
        raise NoMap("the tables are no map from the one web to the other one")
    check_whole(web, whole)
    return [led(web[0], table, column) for table, column in zip(tables, whole)]


def both(field, one, other):
    """The tables that do first the one's, then the other's."""
    check_field(field)
    if len(one) != len(other):
        raise BadShape("there are as many tables of the one as of the other")
    return [behind(field, table, ahead) for ahead, table in zip(one, other)]
