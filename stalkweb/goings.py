"""Goings along steps, what they do to columns, and the columns that all rings leave as they are."""

from stalkweb.elimination import null_columns
from stalkweb.errors import BadSteps, BadWhole, NotStiff, NoWay
from stalkweb.hanging import ring_steps, ways_from
from stalkweb.layout import difference
from stalkweb.leading import joined, still_table, undone
from stalkweb.webs import check_place, check_web, is_column


def step_ends(web, tie, forth):
    """Where a step begins and ends, and the tables there."""
    one, other, room, first, second = web[2][tie]
    if forth:
        return one, other, first, second
    return other, one, second, first


def walked(web, place, table, length, steps):
    """Where the steps come to from the place, and the table, with rows of this length, led along."""
    at, led_on = place, table
    for number, (tie, forth) in enumerate(steps):
        if not 0 <= tie < len(web[2]):
            raise BadSteps("there is no tie of this number")
        start, end, behind, ahead = step_ends(web, tie, forth)
        if start != at:
            raise BadSteps("a step begins elsewhere than the one ahead of it came to")
        back = undone(web[0], ahead, web[1][end])
        if back is None:
            raise NoWay(number)
        led_on = joined(web[0], back, joined(web[0], behind, led_on, length), length)
        at = end
    return at, led_on


def turning_of(web, place, steps):
    """The table that does all of the steps."""
    room = web[1][place]
    end, table = walked(web, place, still_table(room), room, steps)
    return table


def turned_about(steps):
    """The steps back."""
    return [(tie, not forth) for tie, forth in reversed(steps)]


def all_turn_back(web):
    """Whether all tables of all ties turn back."""
    field, sizes, ties = web
    ends = [(first, sizes[one]) for one, other, room, first, second in ties]
    ends += [(second, sizes[other]) for one, other, room, first, second in ties]
    return all([undone(field, table, room) is not None for table, room in ends])


def gone(web, place, column, steps):
    """Where the steps come to from the place, and what they make of the column."""
    check_web(web)
    check_place(web, place)
    if not is_column(web[0], web[1][place], column):
        raise BadWhole("a column has a number of the field for each of its place's room")
    # The column goes as a table of rows of one number each.
    end, table = walked(web, place, [(number,) for number in column], 1, steps)
    return end, tuple([row[0] for row in table])


def turning(web, place, steps):
    """The table that does all of the steps one behind the other."""
    check_web(web)
    check_place(web, place)
    return turning_of(web, place, steps)


def is_stiff(web):
    """Whether all tables of all ties turn back."""
    check_web(web)
    return all_turn_back(web)


def kept_columns(web, place):
    """The base of the columns at the place that the rings of its piece leave as they are."""
    check_web(web)
    if not all_turn_back(web):
        raise NotStiff("a table does not turn back")
    check_place(web, place)
    room = web[1][place]
    ways = ways_from(web, place)
    rows = []
    for tie, (one, other, size, first, second) in enumerate(web[2]):
        if one in ways:
            steps = ways[one] + ring_steps(web, tie) + turned_about(ways[one])
            table = turning_of(web, place, steps)
            # A ring leaves just those columns that it leads to no change.
            rows += [difference(web[0], still, row) for still, row in zip(still_table(room), table)]
    return null_columns(web[0], rows, room)
