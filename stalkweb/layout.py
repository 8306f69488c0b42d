"""How columns lie one behind the other, and how a web's tables make its great rows.

Webs, assignments and columns were looked at already: nothing is refused here.
"""

from stalkweb.arithmetic import NOUGHT, added, negative


def cut(numbers, rooms):
    """The numbers cut into a list of columns of these rooms."""
    found = []
    at = 0
    for room in rooms:
        found.append(tuple(numbers[at:at + room]))
        at += room
    return found


def strung(columns):
    """The columns one behind the other."""
    return tuple([number for column in columns for number in column])


def tie_rooms(web):
    """The rooms of the ties."""
    return [room for one, other, room, first, second in web[2]]


def spread(row, sizes, place):
    """The row of a place, with nought for all places ahead and behind."""
    return [NOUGHT] * sum(sizes[:place]) + list(row) + [NOUGHT] * sum(sizes[place + 1:])


def difference(field, one, other):
    """The latter column less the former, place by place."""
    return tuple([added(field, more, negative(field, number)) for number, more in zip(one, other)])


def great(web):
    """The great rows: each tie's rows, second table less first one, as long as all rooms together."""
    field, sizes, ties = web
    return [
        difference(field, spread(taken, sizes, one), spread(row, sizes, other))
        for one, other, room, first, second in ties for taken, row in zip(first, second)
    ]
