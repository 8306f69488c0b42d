"""Tables: what they lead columns to, one behind the other, and turned back."""

from stalkweb.errors import BadShape
from stalkweb.leading import joined, led, still_table, undone
from stalkweb.numbers import check_field, check_numbers
from stalkweb.rows import check_row_numbers


def row_length(table):
    """How long the rows of a table are; 0 where it has none."""
    return len(table[0]) if table else 0


def check_lengths(table, length):
    """Refuses a table with a row of another length."""
    if any([len(row) != length for row in table]):
        raise BadShape("a row of a table has another length")


def lead(field, table, column):
    """The column that the table leads the column to."""
    check_field(field)
    check_lengths(table, len(column))
    check_row_numbers(field, table)
    check_numbers(field, column)
    return led(field, table, column)


def behind(field, table, other):
    """The table that does first other, then table."""
    check_field(field)
    check_lengths(table, len(other))
    check_lengths(other, row_length(other))
    check_row_numbers(field, table)
    check_row_numbers(field, other)
    return joined(field, table, other, row_length(other))


def still(field, room):
    """The table of so many rows that leaves columns as they are."""
    check_field(field)
    return still_table(room)


def turned_back(field, table):
    """The table that does back what the table does, or None where it does not turn back."""
    check_field(field)
    check_row_numbers(field, table)
    return undone(field, table, len(table))
