"""Deeds and what they are made of, written as texts and read from them."""

from stalkweb.errors import BadText
from stalkweb.numbers import check_field, fits

FIGURES = "0123456789"
# How many figures are read at most: of a top or a bottom, and of any other number.
NUMBER_FIGURES = 2
OTHER_FIGURES = 4

# Of what kinds the things of each deed are, in their order.
DEED_THINGS = {
    "place": ("number",),
    "shut": ("number",),
    "tie": ("number", "number", "number", "table", "table"),
    "cut": ("number",),
    "change": ("number", "number", "table"),
    "say": ("number", "column"),
    "unsay": ("number",),
}


def number_text(number):
    """A number of a field, as it is written."""
    top, bottom = number
    return str(top) if bottom == 1 else f"{top}/{bottom}"


def column_text(column):
    """A column, or a row of a table, as it is written."""
    return ",".join([number_text(number) for number in column]) if column else "*"


def table_text(table):
    """A table as it is written."""
    return ";".join([column_text(row) for row in table]) if table else "#"


def thing_text(kind, thing):
    """A thing of a deed as it is written."""
    if kind == "column":
        return column_text(thing)
    return table_text(thing) if kind == "table" else str(thing)


def read_figures(text, most):
    """The whole number that is written in figures, at most so many and without needless noughts."""
    if not 1 <= len(text) <= most or not all([sign in FIGURES for sign in text]):
        raise BadText()
    number = int(text)
    if str(number) != text:
        raise BadText()
    return number


def read_number(field, text):
    """The number of a column or a table that is so written; by a prime it may be a top alone."""
    bare = text.removeprefix("-")
    figures, slash, below = bare.partition("/")
    top = read_figures(figures, NUMBER_FIGURES)
    bottom = read_figures(below, NUMBER_FIGURES) if slash else 1
    number = (top, bottom) if bare == text else (-top, bottom)
    # A bottom of 1 and a minus ahead of nought are not written: to write it anew tells both.
    if not fits(0, number) or number_text(number) != text:
        raise BadText()
    if field != 0 and text != figures:
        raise BadText()
    return number


def read_column(field, text):
    """The column, or the row of a table, that is so written."""
    if text == "*":
        return ()
    return tuple([read_number(field, part) for part in text.split(",")])


def read_table(field, text):
    """The table that is so written."""
    if text == "#":
        return ()
    return tuple([read_column(field, part) for part in text.split(";")])


def read_thing(field, kind, text):
    """The thing of a deed that is so written."""
    if kind == "column":
        return read_column(field, text)
    return read_table(field, text) if kind == "table" else read_figures(text, OTHER_FIGURES)


def deed_text(deed):
    """A deed that can be read, as it is written."""
    kinds = DEED_THINGS[deed[0]]
    return " ".join([deed[0]] + [thing_text(kind, thing) for kind, thing in zip(kinds, deed[1:])])


def read_deed(field, text):
    """The deed that is so written."""
    check_field(field)
    words = text.split(" ")
    if words[0] not in DEED_THINGS:
        raise BadText()
    kinds = DEED_THINGS[words[0]]
    if len(words) != 1 + len(kinds):
        raise BadText()
    return tuple(words[:1] + [read_thing(field, kind, word) for kind, word in zip(kinds, words[1:])])
