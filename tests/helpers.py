"""What several tests share: numbers, rows and webs made by a plain reckoning of their own, and refusals."""

import unittest
from copy import deepcopy
from fractions import Fraction
from itertools import product
from random import Random

from stalkweb.errors import BadField, BadWeb, Missing, WebError
from stalkweb.whole import sections

PRIMES = (2, 3, 5, 7, 11, 13, 17, 19, 23, 29, 31, 37, 41, 43, 47, 53, 59, 61, 67, 71, 73, 79, 83, 89, 97)
FIELDS = (0,) + PRIMES
SOME_FIELDS = (0, 2, 3, 7, 97)
NOUGHT = (0, 1)
ONE = (1, 1)
BAD_FIELDS = (-97, -7, -2, -1, 1, 4, 6, 9, 49, 91, 95, 96, 98, 99, 100, 101, 103, 997, 10007)


def number(field, top, bottom=1):
    """The number of a division, by a way of its own."""
    if field == 0:
        value = Fraction(top, bottom)
        return (value.numerator, value.denominator)
    return (top * pow(bottom, -1, field) % field, 1)


def row(field, *tops):
    """A row of whole numbers, or of pairs (top, bottom)."""
    return tuple(number(field, *top) if isinstance(top, tuple) else number(field, top) for top in tops)


def rows(field, *lines):
    return [row(field, *line) for line in lines]


def value(field, pair):
    """What a pair stands for: a fraction, or a rest."""
    return Fraction(*pair) if field == 0 else pair[0]


def dot(field, one, other):
    """The sum of the products of two rows, as a number."""
    total = sum((value(field, a) * value(field, b) for a, b in zip(one, other)), Fraction(0) if field == 0 else 0)
    if field == 0:
        return (total.numerator, total.denominator)
    return (total % field, 1)


def led(field, lines, column):
    """What rows lead a column to."""
    return tuple(dot(field, line, column) for line in lines)


def turned(lines, width):
    return [tuple(line[place] for line in lines) for place in range(width)]


def combined(field, weights, lines, width):
    """The sum of all rows with these weights."""
    return tuple(dot(field, weights, column) for column in turned(lines, width))


def plain_rank(field, lines):
    """How many of the rows are no sums of multiples of those ahead of them, by a way of its own."""
    kept = []
    for line in lines:
        left = [value(field, pair) for pair in line]
        for lead, other in kept:
            factor = left[lead]
            left = [a - factor * b for a, b in zip(left, other)]
            if field != 0:
                left = [a % field for a in left]
        lead = next((place for place, a in enumerate(left) if a != 0), None)
        if lead is not None:
            flip = 1 / left[lead] if field == 0 else pow(left[lead], -1, field)
            kept.append((lead, [a * flip if field == 0 else a * flip % field for a in left]))
    return len(kept)


def every_row(prime, width):
    """All rows of a width by a small prime."""
    return [tuple((top, 1) for top in tops) for tops in product(range(prime), repeat=width)]


def chance_number(chance, field, figures=1):
    most = 10 ** figures - 1
    if field == 0:
        return number(0, chance.randint(-most, most), chance.choice((1, 1, 2, 3, chance.randint(1, most))))
    return (chance.randrange(field), 1)


def chance_rows(chance, field, count, width, figures=1):
    return [tuple(chance_number(chance, field, figures) for _ in range(width)) for _ in range(count)]


def low_rank_rows(chance, field, count, width, rank):
    """Rows that are sums of multiples of a few rows, some nought or alike."""
    few = chance_rows(chance, field, rank, width)
    found = []
    for _ in range(count):
        weights = [chance_number(chance, field) for _ in few]
        found.append(combined(field, weights, few, width))
    return found


def new_chance(seed):
    """The same chance in each run, so that a fault shows again."""
    return Random(seed)


def great(figures, seed):
    """A whole number of just so many figures."""
    return Random(seed).randrange(10 ** (figures - 1), 10 ** figures)


class Case(unittest.TestCase):
    """A test that holds refusals to their very class."""

    def refuses(self, kind, call, *given, **fields):
        """The call refuses what is given with this very class; the fields are the refusal's own."""
        with self.assertRaises(kind) as caught:
            call(*given)
        self.assertIs(caught.exception.__class__, kind)
        for name, worth in fields.items():
            self.assertEqual(getattr(caught.exception, name), worth)

    def answers_stay(self, *calls):
        """Changing the list that a call tells changes no later answer of it."""
        for call in calls:
            told = call()
            again = list(told)
            told.append(3)
            told[0] = None
            self.assertEqual(call(), again)

    def stays_as_it_was(self, call, *given):
        """What is handed in is not changed, whether the call tells something or refuses."""
        before = deepcopy(given)
        try:
            call(*given)
        except (WebError, Missing):
            pass
        self.assertEqual(given, before)

    def is_list_of_columns(self, told, rooms):
        """What is told is a list of tuples of pairs, of these rooms."""
        self.assertIs(told.__class__, list)
        self.assertEqual([len(column) for column in told], list(rooms))
        for column in told:
            self.assertIs(column.__class__, tuple)
            self.assertTrue(all(pair.__class__ is tuple and len(pair) == 2 for pair in column))


def bad_numbers(field):
    """Pairs that are no numbers of the field."""
    if field == 0:
        return [(2, 4), (0, 2), (1, 0), (0, 0), (1, -1), (-3, -2)]
    return [(field, 1), (-1, 1), (1, 2), (1, 0), (0, 0), (1, -1), (field + 3, 1)]


def table(field, *lines):
    return tuple(row(field, *line) for line in lines)


def noughts(count):
    return (NOUGHT,) * count


def unit(room):
    """The table that leaves columns of the room as they are."""
    return tuple(tuple(ONE if at == place else NOUGHT for at in range(room)) for place in range(room))


def chance_table(chance, field, room, length, figures=1):
    return tuple(chance_rows(chance, field, room, length, figures))


def chance_stiff_table(chance, field, room):
    """A square table that turns back."""
    while True:
        found = chance_table(chance, field, room, room)
        if plain_rank(field, found) == room:
            return found


def chance_web(chance, field, sizes, count, rooms=(0, 1, 2, 3), figures=1):
    """A web with ties between any places, loops and doubled ties among them."""
    ties = []
    for _ in range(count):
        one, other, room = chance.randrange(len(sizes)), chance.randrange(len(sizes)), chance.choice(rooms)
        first = chance_table(chance, field, room, sizes[one], figures)
        ties.append((one, other, room, first, chance_table(chance, field, room, sizes[other], figures)))
    return (field, tuple(sizes), tuple(ties))


def chance_stiff_web(chance, field, places, count, room):
    """A web all of whose tables turn back."""
    ties = []
    for _ in range(count):
        first, second = chance_stiff_table(chance, field, room), chance_stiff_table(chance, field, room)
        ties.append((chance.randrange(places), chance.randrange(places), room, first, second))
    return (field, (room,) * places, tuple(ties))


def many_webs(seed):
    """Webs of all sorts, the same in each run."""
    chance = new_chance(seed)
    for field in SOME_FIELDS:
        yield (field, (0,), ())
        yield (field, (2,), ())
        yield (field, (3, 0, 1), ())
        yield (field, (0, 0), ((0, 1, 0, (), ()),))
        yield (field, (0, 1), ((0, 1, 2, ((), ()), table(field, (1,), (2,))),))
        yield (field, (1, 1), ((0, 1, 1, unit(1), unit(1)),))
        yield (field, (2,), ((0, 0, 2, unit(2), table(field, (0, 1), (1, 0))),))
        yield (field, (2, 2), ((0, 1, 2, unit(2), unit(2)), (1, 0, 2, unit(2), table(field, (1, 1), (0, 1)))))
        yield (field, (1, 2), ((0, 1, 0, (), ()), (0, 1, 1, table(field, (0,)), table(field, (0, 0)))))
        for _ in range(3):
            sizes = [chance.randint(0, 3) for _ in range(chance.randint(1, 4))]
            yield chance_web(chance, field, sizes, chance.randint(1, 4))
            yield chance_web(chance, field, [3, 2, 3], 2, (1, 2))
            yield chance_stiff_web(chance, field, 3, chance.randint(1, 4), chance.randint(1, 2))


def widest_web(chance, field):
    """Eight places and twelve ties, all of room 3, with numbers to the bounds."""
    ties = []
    for at in range(12):
        first = chance_table(chance, field, 3, 3, 2)
        ties.append((at % 8, (at * at + 1) % 8, 3, first, chance_table(chance, field, 3, 3, 2)))
    return (field, (3,) * 8, tuple(ties))


def wide_even_web(field):
    """As wide, with numbers to the bounds, and yet with sections: each table of a tie is as the other one."""
    chance = new_chance(77)
    ties = []
    for at in range(12):
        even = chance_table(chance, field, 3, 3, 2)
        ties.append((at % 8, (at + 1 + at // 8) % 8, 3, even, even))
    return (field, (3,) * 8, tuple(ties))


def chance_section(chance, web, figures=1):
    """A section with chance factors of the base."""
    base = sections(web)
    return summed(web[0], [chance_number(chance, web[0], figures) for _ in base], base, web[1])


def small_webs(seed, primes=(2, 3)):
    """Webs by small primes, of which all assignments can be gone through."""
    chance = new_chance(seed)
    for prime in primes:
        for _ in range(12):
            sizes = [chance.randint(0, 2) for _ in range(chance.randint(1, 3))]
            yield chance_web(chance, prime, sizes[:3] if prime == 2 else sizes[:2], chance.randint(0, 3), (0, 1, 2))


def chance_whole(chance, web, figures=1):
    return [chance_rows(chance, web[0], 1, room, figures)[0] for room in web[1]]


def every_columns(prime, rooms):
    """All lists of columns of these rooms."""
    found = [[]]
    for room in rooms:
        found = [columns + [column] for columns in found for column in every_row(prime, room)]
    return found


def flat(columns):
    return tuple(pair for column in columns for pair in column)


def rooms_of_ties(web):
    return [tie[2] for tie in web[2]]


def minus(field, one, other):
    """The former column less the latter one."""
    return tuple(dot(field, (a, b), (ONE, number(field, -1))) for a, b in zip(one, other))


def told_differences(web, whole):
    field, sizes, ties = web
    return [
        minus(field, led(field, second, whole[other]), led(field, first, whole[one]))
        for one, other, room, first, second in ties
    ]


def agreeing(web, whole):
    return all(pair == NOUGHT for pair in flat(told_differences(web, whole)))


def summed(field, factors, wholes, rooms):
    """The sum of the lists of columns with these factors."""
    lines = [flat(whole) for whole in wholes]
    total, found = list(combined(field, factors, lines, sum(rooms))), []
    for room in rooms:
        found.append(tuple(total[:room]))
        total = total[room:]
    return found


def bad_webs(field):
    """Webs that are none, each bent in one thing alone."""
    good = (0, 1, 1, table(field, (1,)), table(field, (2, 3)))
    bent = [
        (0, 2, 1, good[3], good[4]), (-1, 1, 1, good[3], good[4]), (0, -1, 1, good[3], good[4]),
        (2, 1, 1, good[3], good[4]), (0, 1, -1, (), ()), (0, 1, 4, good[3] * 4, good[4] * 4),
        (0, 1, 2, good[3], good[4]), (0, 1, 1, good[3] * 2, good[4]), (0, 1, 1, good[3], good[4] * 2),
        (0, 1, 1, (), good[4]), (0, 1, 1, good[3], ()), (0, 1, 0, good[3], ()), (0, 1, 0, (), good[4]),
        (0, 1, 1, ((),), good[4]), (0, 1, 1, table(field, (1, 1)), good[4]), (0, 1, 1, good[3], table(field, (1,))),
        (0, 1, 1, good[3], table(field, (1, 1, 1))), (0, 1, 2, good[3] * 2, good[4] + table(field, (1,))),
        (0, 1, 2, good[3] + ((),), good[4] * 2),
    ]
    for bad in bad_numbers(field) + [(100, 1), (-100, 1), (1, 100), (10 ** 50, 1)]:
        bent.append((0, 1, 1, ((bad,),), good[4]))
        bent.append((0, 1, 1, good[3], ((ONE, bad),)))
    found = [(field, (1, 2), (tie,)) for tie in bent] + [(field, (1, 2), (good, tie)) for tie in bent]
    for sizes in ((), (1,) * 9, (0,) * 9, (-1,), (4,), (1, -1), (1, 1, 4), (10 ** 30,)):
        found.append((field, sizes, ()))
    found.append((field, (1, 2), (good,) * 13))
    found.append((field, (0,), ((0, 0, 0, (), ()),) * 13))
    return found


def bad_wholes(web):
    """Lists of columns that are no assignments of this web, bent in one thing alone each."""
    field, sizes, ties = web
    good = [noughts(room) for room in sizes]
    found = [good + [()], good + [(ONE,)], good[:-1], []]
    for place in range(len(sizes)):
        columns = [good[place] + (NOUGHT,)]
        if sizes[place]:
            columns.append(good[place][1:])
            columns += [good[place][1:] + (bad,) for bad in bad_numbers(field)]
            columns += [(bad,) + good[place][1:] for bad in bad_numbers(field)]
        found += [good[:place] + [column] + good[place + 1:] for column in columns]
    return found


def hold_web_refusals(case, call, *behind):
    """The call refuses each web that is none ahead of all else, whatever stands behind the web."""
    for field in (0, 5):
        for web in bad_webs(field):
            case.refuses(BadWeb, call, web, *behind)
    for field in BAD_FIELDS:
        case.refuses(BadField, call, (field, (1,), ()), *behind)
        case.refuses(BadField, call, (field, (), ((7, 7, 7, (), ()),)), *behind)
