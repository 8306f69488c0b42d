"""Rows reduced, and what follows of it, of rows that were looked at already.

Rows are lists or tuples of numbers of the field, none shorter than the width.
Nothing is refused here: stalkweb/rows.py looks at what is handed in.
"""

from stalkweb.arithmetic import NOUGHT, ONE, added, flipped, multiplied, negative


def swept(field, row, by, place):
    """The row with such a multiple of `by`, which has 1 at the place, that it has nought there."""
    if row[place] == NOUGHT:
        return row
    factor = negative(field, row[place])
    return [added(field, number, multiplied(field, factor, other)) for number, other in zip(row, by)]


def scaled(field, row, place):
    """The multiple of the row that has 1 at the place."""
    factor = flipped(field, row[place])
    return [multiplied(field, factor, number) for number in row]


def first_at(rows, place):
    """Where the first of the rows stands that is not nought at the place, or None."""
    for at, row in enumerate(rows):
        if row[place] != NOUGHT:
            return at
    return None


def stepped(field, rows, width):
    """Pairs (lead, row): leads rise, are 1, and have nought in the rows behind."""
    left = list(rows)
    found = []
    for place in range(width):
        at = first_at(left, place)
        if at is not None:
            row = scaled(field, left[at], place)
            others = left[:at] + left[at + 1:]
            left = [swept(field, other, row, place) for other in others]
            found.append((place, row))
    return found


def with_leads(field, rows, width):
    """Pairs (lead, row) of the reduced rows."""
    steps = stepped(field, rows, width)
    done = []
    # From the last row on, so that each row is swept by rows that are ready.
    for lead, row in reversed(steps):
        clean = row
        for place, ready in done:
            clean = swept(field, clean, ready, place)
        done.append((lead, tuple(clean)))
    return done[::-1]


def null_columns(field, rows, width):
    """The null base: a column for each place without a lead, with 1 there."""
    found = with_leads(field, rows, width)
    leads = [lead for lead, row in found]
    return [null_column(field, found, width, place) for place in range(width) if place not in leads]


def null_column(field, found, width, place):
    """The column that the reduced rows lead to nought, with 1 at this place without a lead."""
    column = [NOUGHT] * width
    column[place] = ONE
    for lead, row in found:
        column[lead] = negative(field, row[place])
    return tuple(column)


def solution(field, rows, width, ask):
    """The column, nought at each place without a lead, that the rows lead to the ask, or None."""
    asked = [list(row) + [number] for row, number in zip(rows, ask)]
    column = [NOUGHT] * width
    for lead, row in with_leads(field, asked, width + 1):
        # A row that is nought but for its ask: no column is led to that.
        if lead == width:
            return None
        column[lead] = row[width]
    return tuple(column)


def turned(rows, width):
    """The columns of the rows as rows."""
    return [tuple([row[place] for row in rows]) for place in range(width)]


def weights_against(field, rows, width, ask):
    """Weights with which the rows make nought and the ask makes 1, or None."""
    # The weights are themselves a column: one that the turned rows lead to nought and the ask to 1.
    return solution(field, turned(rows, width) + [ask], len(rows), [NOUGHT] * width + [ONE])
