"""Lines: reduced rows that remember of which rows they are made.

A line is a row with one number more for each row that stands, in the order of these: with these
weights they sum to the row. Each row that stands brings one line. Where the others make it already
its line is nought in front; such lines stand last, ahead of them the reduced rows by their leads.
Each nought line has a row of its own; all other weights are of rows of which none is made of the
rest, so that there is just one way to weigh them and the weights don't grow from deed to deed.
"""

from stalkweb.arithmetic import NOUGHT, ONE
from stalkweb.elimination import scaled, swept


def lead_of(line):
    """The first place at which the line is not nought; there is one, if only of its weights."""
    at = 0
    while line[at] == NOUGHT:
        at += 1
    return at


def reduced_lines(lines, width):
    """The lines that are not nought in front."""
    return [line for line in lines if lead_of(line) < width]


def left_over(field, lines, width, row):
    """What the reduced lines leave of the row, with the weights of what was taken off."""
    rest = list(row) + [NOUGHT] * len(lines)
    for line in reduced_lines(lines, width):
        rest = swept(field, rest, line, lead_of(line))
    return rest


def lines_with(field, lines, width, row):
    """The lines when this row stands too, behind the others."""
    rest = left_over(field, lines, width, row) + [ONE]
    others = [line + [NOUGHT] for line in lines]
    place = lead_of(rest)
    if place < width:
        rest = scaled(field, rest, place)
        others = [swept(field, line, rest, place) for line in others]
    return sorted(others + [rest], key=lead_of)


def lines_without(field, lines, width, at):
    """The lines when the row at this place, from 0, of those that stand stands no more."""
    place = width + at
    # The last line with this row: a nought line changes no reduced row, and where there is none,
    # the reduced row with the last lead changes none of the others' leads.
    last = max([k for k, line in enumerate(lines) if line[place] != NOUGHT])
    gone = scaled(field, lines[last], place)
    others = [swept(field, line, gone, place) for line in lines[:last] + lines[last + 1:]]
    return [line[:place] + line[place + 1:] for line in others]
