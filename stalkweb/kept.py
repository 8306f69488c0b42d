"""Kept rows: they are put in and dropped, and stay reduced all the while."""

from stalkweb.arithmetic import NOUGHT, negative
from stalkweb.errors import BadShape, Full, NoRow
from stalkweb.lines import left_over, lines_with, lines_without, reduced_lines
from stalkweb.numbers import check_field, check_numbers
from stalkweb.rows import MOST_ROWS, check_width


class Kept:
    """The rows of a width that stand, each with its number."""

    def __init__(self, field, width):
        check_field(field)
        check_width(width)
        self.field = field
        self.width = width
        self.coming = 1
        # By their numbers; numbers rise, so the rows stand in the order of their weights in a line.
        self.standing = {}
        self.lines = []

    def check_row(self, row):
        """Refuses what is no row of the field and the width."""
        if len(row) != self.width:
            raise BadShape("a row has another length than the width")
        check_numbers(self.field, row)

    def put(self, row):
        """Puts the row in and tells its number."""
        self.check_row(row)
        if len(self.standing) >= MOST_ROWS:
            raise Full("at most 60 rows stand at once")
        number = self.coming
        self.lines = lines_with(self.field, self.lines, self.width, row)
        self.standing[number] = tuple(row)
        self.coming = number + 1
        return number

    def drop(self, number):
        """Drops the row of this number and tells it."""
        if number not in self.standing:
            raise NoRow("no row of this number stands")
        at = list(self.standing).index(number)
        self.lines = lines_without(self.field, self.lines, self.width, at)
        return self.standing.pop(number)

    def rank(self):
        """The rank of the rows that stand."""
        return len(reduced_lines(self.lines, self.width))

    def holds(self, row):
        """Whether the row is a sum of multiples of those that stand."""
        return self.made_of(row) is not None

    def made_of(self, row):
        """Pairs (number, factor), rising, of rows that sum to this one, or None."""
        self.check_row(row)
        rest = left_over(self.field, self.lines, self.width, row)
        if any([number != NOUGHT for number in rest[:self.width]]):
            return None
        # The weights tell what was added to the row to leave nought: the row is their negative.
        return [
            (number, negative(self.field, weight))
            for number, weight in zip(self.standing, rest[self.width:]) if weight != NOUGHT
        ]

    def rows(self):
        """Pairs (number, row), rising."""
        return [(number, row) for number, row in self.standing.items()]

    def twin(self):
        """One with the same rows and the same next number, that goes its own way."""
        found = Kept(self.field, self.width)
        found.coming = self.coming
        found.standing = {number: row for number, row in self.standing.items()}
        found.lines = list(self.lines)
        return found

    def __len__(self):
        return len(self.standing)

    def __eq__(self, other):
        return (
            isinstance(other, Kept) and self.field == other.field
            and self.width == other.width and self.standing == other.standing
        )

    def __repr__(self):
        return f"Kept({self.field}, {self.rank()} of {len(self.standing)})"
