"""What several tests share: fields, numbers made by a plain reckoning of their own, and rows."""

from fractions import Fraction
from itertools import product
from random import Random

PRIMES = (2, 3, 5, 7, 11, 13, 17, 19, 23, 29, 31, 37, 41, 43, 47, 53, 59, 61, 67, 71, 73, 79, 83, 89, 97)
FIELDS = (0,) + PRIMES
BAD_FIELDS = (-97, -7, -2, -1, 1, 4, 6, 9, 49, 91, 95, 96, 98, 99, 100, 101, 103, 997, 10007)


def number(field, top, bottom=1):
    """The number of a division, by a way of its own."""
    if field == 0:
        value = Fraction(top, bottom)
        return (value.numerator, value.denominator)
    return (top * pow(bottom, -1, field) % field, 1)


def row(field, *tops):
    """A row of whole numbers, or of pairs (top, bottom)."""
    return tuple(number(field, *top) if isinstance(top, tuple) else number(field, top) for top in tops)


def rows(field, *lines):
    return [row(field, *line) for line in lines]


def value(field, pair):
    """What a pair stands for: a fraction, or a rest."""
    return Fraction(*pair) if field == 0 else pair[0]


def dot(field, one, other):
    """The sum of the products of two rows, as a number."""
    total = sum((value(field, a) * value(field, b) for a, b in zip(one, other)), Fraction(0) if field == 0 else 0)
    if field == 0:
        return (total.numerator, total.denominator)
    return (total % field, 1)


def led(field, lines, column):
    """What rows lead a column to."""
    return tuple(dot(field, line, column) for line in lines)


def turned(lines, width):
    return [tuple(line[place] for line in lines) for place in range(width)]


def combined(field, weights, lines, width):
    """The sum of all rows with these weights."""
    return tuple(dot(field, weights, column) for column in turned(lines, width))


def plain_rank(field, lines):
    """How many of the rows are no sums of multiples of those ahead of them, by a way of its own."""
    kept = []
    for line in lines:
        left = [value(field, pair) for pair in line]
        for lead, other in kept:
            factor = left[lead]
            left = [a - factor * b for a, b in zip(left, other)]
            if field != 0:
                left = [a % field for a in left]
        lead = next((place for place, a in enumerate(left) if a != 0), None)
        if lead is not None:
            flip = 1 / left[lead] if field == 0 else pow(left[lead], -1, field)
            kept.append((lead, [a * flip if field == 0 else a * flip % field for a in left]))
    return len(kept)


def every_row(prime, width):
    """All rows of a width by a small prime."""
    return [tuple((top, 1) for top in tops) for tops in product(range(prime), repeat=width)]


def chance_number(chance, field, figures=1):
    most = 10 ** figures - 1
    if field == 0:
        return number(0, chance.randint(-most, most), chance.choice((1, 1, 2, 3, chance.randint(1, most))))
    return (chance.randrange(field), 1)


def chance_rows(chance, field, count, width, figures=1):
    return [tuple(chance_number(chance, field, figures) for _ in range(width)) for _ in range(count)]


def low_rank_rows(chance, field, count, width, rank):
    """Rows that are sums of multiples of a few rows, some nought or alike."""
    few = chance_rows(chance, field, rank, width)
    found = []
    for _ in range(count):
        weights = [chance_number(chance, field) for _ in few]
        found.append(combined(field, weights, few, width))
    return found


def new_chance(seed):
    """The same chance in each run, so that a fault shows again."""
    return Random(seed)


def great(figures, seed):
    """A whole number of just so many figures."""
    return Random(seed).randrange(10 ** (figures - 1), 10 ** figures)
