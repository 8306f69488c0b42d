"""Rows reduced: their rank, their null base, and which asks are met or barred."""

from stalkweb.elimination import null_columns, solution, stepped, weights_against, with_leads
from stalkweb.errors import BadShape
from stalkweb.numbers import check_field, check_numbers

WIDEST = 40
MOST_ROWS = 60


def check_width(width):
    """Refuses a bad width."""
    if not 0 <= width <= WIDEST:
        raise BadShape("a width is 0 to 40")


def check_shape(rows, width):
    """Refuses a bad width, too many rows and a row of another length."""
    check_width(width)
    if len(rows) > MOST_ROWS:
        raise BadShape("there are at most 60 rows")
    if any([len(row) != width for row in rows]):
        raise BadShape("a row has another length than the width")


def check_row_numbers(field, rows):
    """Refuses rows with what is no number."""
    for row in rows:
        check_numbers(field, row)


def check_rows(field, rows, width):
    """Refuses a bad field, then bad shapes, then bad numbers."""
    check_field(field)
    check_shape(rows, width)
    check_row_numbers(field, rows)


def check_asked(field, rows, width, ask):
    """Refuses rows and an ask likewise: each shape is looked at ahead of any number."""
    check_field(field)
    check_shape(rows, width)
    if len(ask) != len(rows):
        raise BadShape("an ask has a number for each row")
    check_row_numbers(field, rows)
    check_numbers(field, ask)


def reduced(field, rows, width):
    """The reduced rows of these rows."""
    check_rows(field, rows, width)
    return [row for lead, row in with_leads(field, rows, width)]


def rank(field, rows, width):
    """How many reduced rows there are."""
    check_rows(field, rows, width)
    return len(stepped(field, rows, width))


def null_base(field, rows, width):
    """A column for each place without a lead; all columns led to nought are sums of their multiples."""
    check_rows(field, rows, width)
    return null_columns(field, rows, width)


def met(field, rows, width, ask):
    """The column that the rows lead to the ask, nought at each place without a lead, or None."""
    check_asked(field, rows, width, ask)
    return solution(field, rows, width, ask)


def barred(field, rows, width, ask):
    """Weights with which the rows make nought and the ask makes 1, or None."""
    check_asked(field, rows, width, ask)
    return weights_against(field, rows, width, ask)
