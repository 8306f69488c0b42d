"""What tables do, of tables and columns that were looked at already.

Nothing is refused here: stalkweb/tables.py looks at what is handed in.
"""

from stalkweb.arithmetic import NOUGHT, ONE, added, multiplied
from stalkweb.elimination import turned, with_leads


def paired(field, row, column):
    """The sum of the products of a row's numbers with a column's."""
    total = NOUGHT
    for one, other in zip(row, column):
        total = added(field, total, multiplied(field, one, other))
    return total


def led(field, table, column):
    """The column that the table leads the column to."""
    return tuple([paired(field, row, column) for row in table])


def joined(field, table, other, length):
    """The table that does first other, whose rows have this length, then table."""
    # Other may have no row that tells its length: then table brings columns of so many noughts.
    columns = turned(other, length)
    return tuple([led(field, columns, row) for row in table])


def still_table(room):
    """The table of so many rows that leaves each column as it is."""
    return tuple([tuple([ONE if at == place else NOUGHT for at in range(room)]) for place in range(room)])


def undone(field, table, room):
    """The table that does back what the table does to columns of the room, or None."""
    # Ahead of the reckoning: a table without rows has no row that tells its length.
    if len(table) != room or any([len(row) != room for row in table]):
        return None
    beside = [list(row) + list(still) for row, still in zip(table, still_table(room))]
    found = with_leads(field, beside, room)
    if len(found) < room:
        return None
    return tuple([row[room:] for place, row in found])
