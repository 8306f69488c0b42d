import unittest

from helpers import (
    BAD_FIELDS, FIELDS, NOUGHT, ONE, SOME_FIELDS, chance_number, chance_rows, combined, dot, every_row, great, led,
    low_rank_rows, new_chance, number, plain_rank, row, rows, turned,
)
from stalkweb.errors import BadField, BadNumber, BadShape
from stalkweb.numbers import is_number, made
from stalkweb.rows import barred, met, null_base, rank, reduced


def leads_of(lines):
    return [next(place for place, pair in enumerate(line) if pair != NOUGHT) for line in lines]


def many_rows():
    """Triples (field, rows, width) of all sorts, the same in each run."""
    chance = new_chance(11)
    for field in SOME_FIELDS:
        yield field, [], 0
        yield field, [], 5
        yield field, [(), (), ()], 0
        yield field, [(NOUGHT,) * 4] * 3, 4
        yield field, [row(field, 1, 1, 0)] * 5, 3
        yield field, rows(field, (1, 2, 3), (2, 4, 6), (3, 6, 9), (0, 0, 0)), 3
        yield field, rows(field, (1, 2, 3), (1, 0, 1), (2, 2, 4), (0, 2, 2)), 3
        yield field, rows(field, (0, 0, 1), (0, 1, 0), (1, 0, 0)), 3
        for width, count, most in ((1, 1, 1), (1, 4, 1), (4, 1, 1), (3, 3, 3), (6, 4, 2), (4, 7, 3), (9, 9, 5)):
            yield field, low_rank_rows(chance, field, count, width, most), width
            yield field, chance_rows(chance, field, count, width), width


def great_rows(field):
    """Rows of forty numbers of some hundred figures, one a sum of multiples of the others."""
    lines = [
        tuple(number(0, great(300, 50 * line + place), great(20, place + 7)) for place in range(40))
        for line in range(2)
    ]
    if field != 0:
        lines = [tuple(made(field, top) for top, bottom in line) for line in lines]
    weights = (made(field, great(40, 1)), made(field, -great(40, 2)))
    return lines + [combined(field, weights, lines, 40)]


class Checks(unittest.TestCase):
    """What each answer is held against, whatever the rows are."""

    def hold_reduced(self, field, lines, width):
        found = reduced(field, lines, width)
        self.assertIsInstance(found, list)
        leads = leads_of(found)
        self.assertEqual(leads, sorted(set(leads)))
        for line, lead in zip(found, leads):
            self.assertIsInstance(line, tuple)
            self.assertEqual(len(line), width)
            self.assertTrue(all(is_number(field, pair) for pair in line))
            self.assertEqual([other[lead] for other in found], [ONE if other is line else NOUGHT for other in found])
        # At its leads a row tells which multiples of the reduced rows it can only be the sum of.
        for line in lines:
            self.assertEqual(combined(field, [line[lead] for lead in leads], found, width), tuple(line))
        # Conversely the reduced rows are made of these: there are no more of them than these can make.
        self.assertEqual(len(found), plain_rank(field, lines))
        return found, leads

    def hold_null_base(self, field, lines, width):
        found, leads = self.hold_reduced(field, lines, width)
        base = null_base(field, lines, width)
        self.assertIsInstance(base, list)
        free = [place for place in range(width) if place not in leads]
        self.assertEqual(len(base), len(free))
        for place, column in zip(free, base):
            self.assertIsInstance(column, tuple)
            self.assertEqual(len(column), width)
            self.assertEqual(led(field, lines, column), (NOUGHT,) * len(lines))
            self.assertEqual([column[at] for at in free], [ONE if at == place else NOUGHT for at in free])
        return base

    def hold_ask(self, field, lines, width, ask):
        column, weights = met(field, lines, width, ask), barred(field, lines, width, ask)
        self.assertEqual([column, weights].count(None), 1)
        if column is not None:
            self.assertIsInstance(column, tuple)
            self.assertEqual(len(column), width)
            self.assertEqual(led(field, lines, column), ask)
            leads = leads_of(reduced(field, lines, width))
            self.assertTrue(all(column[place] == NOUGHT for place in range(width) if place not in leads))
        else:
            self.assertIsInstance(weights, tuple)
            self.assertEqual(len(weights), len(lines))
            self.assertTrue(all(is_number(field, pair) for pair in weights))
            self.assertEqual(combined(field, weights, lines, width), (NOUGHT,) * width)
            self.assertEqual(dot(field, weights, ask), ONE)
        return column


class Reduced(Checks):
    def test_told_rows(self):
        self.assertEqual(reduced(0, rows(0, (2, 4), (1, 3)), 2), rows(0, (1, 0), (0, 1)))
        self.assertEqual(reduced(0, rows(0, (2, 3)), 2), rows(0, (1, (3, 2))))
        self.assertEqual(reduced(0, rows(0, (0, -2, 3), (0, 4, 1)), 3), rows(0, (0, 1, 0), (0, 0, 1)))
        self.assertEqual(reduced(0, rows(0, (1, 2, 3), (4, 5, 6), (7, 8, 9)), 3), rows(0, (1, 0, -1), (0, 1, 2)))
        self.assertEqual(reduced(2, rows(2, (1, 1, 0), (0, 1, 1), (1, 0, 1)), 3), rows(2, (1, 0, 1), (0, 1, 1)))
        self.assertEqual(reduced(7, rows(7, (3, 1)), 2), rows(7, (1, 5)))
        self.assertEqual(reduced(0, rows(0, ((1, 2), (1, 3)), ((1, 4), (1, 5))), 2), rows(0, (1, 0), (0, 1)))
        self.assertEqual(reduced(0, rows(0, ((1, 2), (1, 3)), ((1, 4), (1, 6))), 2), rows(0, (1, (2, 3))))

    def test_no_rows_no_width_and_noughts_alone(self):
        for field in FIELDS:
            self.assertEqual(reduced(field, [], 0), [])
            self.assertEqual(reduced(field, [], 40), [])
            self.assertEqual(reduced(field, [()] * 60, 0), [])
            self.assertEqual(reduced(field, [(NOUGHT,) * 3] * 4, 3), [])

    def test_all_sorts_of_rows(self):
        for field, lines, width in many_rows():
            self.hold_reduced(field, lines, width)

    def test_fields_tell_apart(self):
        lines = [((1, 1), (2, 1)), ((3, 1), (1, 1))]
        self.assertEqual(len(reduced(0, lines, 2)), 2)
        self.assertEqual(reduced(5, lines, 2), [((1, 1), (2, 1))])
        self.assertEqual(len(reduced(7, lines, 2)), 2)

    def test_another_order_scaled_and_added_to_one_another(self):
        chance = new_chance(12)
        for field, lines, width in many_rows():
            found = reduced(field, lines, width)
            self.assertEqual(reduced(field, lines[::-1], width), found)
            mixed = list(lines)
            chance.shuffle(mixed)
            self.assertEqual(reduced(field, mixed, width), found)
            factor = number(field, -1) if field else (-7, 3)
            self.assertEqual(reduced(field, [combined(field, [factor], [line], width) for line in lines], width), found)
            if len(lines) > 1:
                weights = chance_number(chance, field)
                added = combined(field, [ONE, weights], [lines[0], lines[1]], width)
                self.assertEqual(reduced(field, [added] + lines[1:], width), found)
                self.assertEqual(reduced(field, lines + [added], width), found)

    def test_reduced_rows_are_reduced(self):
        for field, lines, width in many_rows():
            found = reduced(field, lines, width)
            self.assertEqual(reduced(field, found, width), found)

    def test_just_what_the_rows_can_make(self):
        # By a small prime the rows that can be made are few enough to make them all.
        chance = new_chance(13)
        for prime in (2, 3):
            for _ in range(12):
                lines = low_rank_rows(chance, prime, 3, 4, 2)
                made_of = {combined(prime, weights, lines, 4) for weights in every_row(prime, 3)}
                found = reduced(prime, lines, 4)
                again = {combined(prime, weights, found, 4) for weights in every_row(prime, len(found))}
                self.assertEqual(again, made_of)
                self.assertEqual(prime ** rank(prime, lines, 4), len(made_of))

    def test_width_of_forty_and_sixty_rows(self):
        chance = new_chance(14)
        for field in SOME_FIELDS:
            found, leads = self.hold_reduced(field, low_rank_rows(chance, field, 60, 40, 12), 40)
            self.assertLessEqual(len(found), 12)
        found, leads = self.hold_reduced(97, chance_rows(chance, 97, 60, 40), 40)
        self.assertEqual(leads, list(range(40)))

    def test_great_rows_of_forty_numbers(self):
        for field in (0, 2, 97):
            found, leads = self.hold_reduced(field, great_rows(field), 40)
            self.assertEqual(len(found), 2)
        self.assertEqual(leads_of(reduced(0, great_rows(0), 40)), [0, 1])


class Rank(Checks):
    def test_told_ranks(self):
        self.assertEqual(rank(0, [], 0), 0)
        self.assertEqual(rank(0, [], 40), 0)
        self.assertEqual(rank(0, [()] * 60, 0), 0)
        self.assertEqual(rank(0, [(NOUGHT,) * 2] * 2, 2), 0)
        self.assertEqual(rank(0, rows(0, (1, 2), (2, 4)), 2), 1)
        self.assertEqual(rank(0, rows(0, (1, 2, 3), (4, 5, 6), (7, 8, 9)), 3), 2)
        self.assertEqual(rank(3, rows(3, (1, 2), (2, 1)), 2), 1)
        self.assertEqual(rank(0, rows(0, (1, 2), (2, 1)), 2), 2)

    def test_by_rows_and_by_columns(self):
        for field, lines, width in many_rows():
            told = rank(field, lines, width)
            self.assertIs(told.__class__, int)
            self.assertEqual(told, len(reduced(field, lines, width)))
            self.assertEqual(told, rank(field, turned(lines, width), len(lines)))

    def test_wide_and_great(self):
        chance = new_chance(15)
        for field in SOME_FIELDS:
            lines = low_rank_rows(chance, field, 40, 40, 9)
            self.assertEqual(rank(field, lines, 40), rank(field, turned(lines, 40), 40))
        self.assertEqual(rank(0, great_rows(0), 40), 2)
        self.assertEqual(rank(0, turned(great_rows(0), 40), 3), 2)
        still = [tuple(ONE if at == place else NOUGHT for at in range(40)) for place in range(40)]
        self.assertEqual(rank(0, still, 40), 40)


class NullBase(Checks):
    def test_told_bases(self):
        self.assertEqual(null_base(0, [], 0), [])
        self.assertEqual(null_base(0, [], 2), rows(0, (1, 0), (0, 1)))
        self.assertEqual(null_base(0, [()], 0), [])
        self.assertEqual(null_base(0, rows(0, (1, 2, 3)), 3), rows(0, (-2, 1, 0), (-3, 0, 1)))
        self.assertEqual(null_base(0, rows(0, (0, 2, 3)), 3), rows(0, (1, 0, 0), (0, (-3, 2), 1)))
        self.assertEqual(null_base(7, rows(7, (1, 2, 3)), 3), rows(7, (5, 1, 0), (4, 0, 1)))
        self.assertEqual(null_base(0, rows(0, (1, 2), (3, 4)), 2), [])
        self.assertEqual(null_base(2, rows(2, (1, 1), (1, 1)), 2), rows(2, (1, 1)))

    def test_all_sorts_of_rows(self):
        for field, lines, width in many_rows():
            self.assertEqual(len(self.hold_null_base(field, lines, width)), width - rank(field, lines, width))

    def test_each_column_led_to_nought_is_just_one_sum(self):
        chance = new_chance(16)
        for prime in (2, 3):
            for _ in range(12):
                lines = chance_rows(chance, prime, 2, 4)
                base = null_base(prime, lines, 4)
                sums = [combined(prime, weights, base, 4) for weights in every_row(prime, len(base))]
                nulls = [column for column in every_row(prime, 4) if led(prime, lines, column) == (NOUGHT, NOUGHT)]
                self.assertEqual(sorted(sums), sorted(nulls))

    def test_wide_and_great(self):
        chance = new_chance(17)
        for field in SOME_FIELDS:
            self.hold_null_base(field, low_rank_rows(chance, field, 60, 40, 10), 40)
        self.assertEqual(len(self.hold_null_base(0, great_rows(0), 40)), 38)
        self.assertEqual(len(null_base(5, [], 40)), 40)


class Asks(Checks):
    def test_told_columns(self):
        self.assertEqual(met(0, [], 0, ()), ())
        self.assertEqual(met(0, [], 2, ()), (NOUGHT, NOUGHT))
        self.assertEqual(met(0, [(), ()], 0, (NOUGHT, NOUGHT)), ())
        self.assertEqual(met(0, rows(0, (1, 2, 3)), 3, row(0, 5)), row(0, 5, 0, 0))
        self.assertEqual(met(0, rows(0, (0, 2, 3)), 3, row(0, 5)), row(0, 0, (5, 2), 0))
        self.assertEqual(met(0, rows(0, (1, 1), (1, -1)), 2, row(0, 1, 0)), row(0, (1, 2), (1, 2)))
        self.assertEqual(met(5, rows(5, (1, 1), (1, 4)), 2, row(5, 1, 0)), row(5, 3, 3))
        self.assertIsNone(met(0, rows(0, (1, 1), (2, 2)), 2, row(0, 1, 3)))
        self.assertIsNone(met(2, rows(2, (1, 1), (1, 1)), 2, row(2, 1, 0)))
        self.assertIsNone(met(0, [(NOUGHT,)], 1, (ONE,)))

    def test_told_bars(self):
        self.assertIsNone(barred(0, [], 0, ()))
        self.assertIsNone(barred(0, [], 2, ()))
        self.assertIsNone(barred(0, [(), ()], 0, (NOUGHT, NOUGHT)))
        self.assertEqual(barred(0, [()], 0, row(0, 3)), row(0, (1, 3)))
        self.assertEqual(barred(0, rows(0, (1, 1), (2, 2)), 2, row(0, 1, 3)), row(0, -2, 1))
        self.assertEqual(barred(0, [(NOUGHT,)], 1, row(0, -2)), row(0, (-1, 2)))
        self.assertEqual(barred(2, rows(2, (1, 1), (1, 1)), 2, row(2, 1, 0)), row(2, 1, 1))
        self.assertIsNone(barred(0, rows(0, (1, 1), (1, -1)), 2, row(0, 1, 0)))

    def test_either_met_or_barred(self):
        chance = new_chance(18)
        for field, lines, width in many_rows():
            self.hold_ask(field, lines, width, (NOUGHT,) * len(lines))
            for _ in range(3):
                self.hold_ask(field, lines, width, tuple(chance_number(chance, field) for _ in lines))

    def test_what_a_column_is_led_to_is_met(self):
        chance = new_chance(19)
        for field, lines, width in many_rows():
            ask = led(field, lines, tuple(chance_number(chance, field) for _ in range(width)))
            self.assertIsNotNone(self.hold_ask(field, lines, width, ask))

    def test_each_ask_by_a_small_prime(self):
        for prime in (2, 3):
            for lines in (rows(prime, (1, 1), (0, 0), (1, 1)), rows(prime, (1, 0), (0, 1), (1, 1))):
                reached = {led(prime, lines, column) for column in every_row(prime, 2)}
                for ask in every_row(prime, 3):
                    self.assertEqual(self.hold_ask(prime, lines, 2, ask) is not None, ask in reached)

    def test_wide_and_great(self):
        chance = new_chance(20)
        for field in SOME_FIELDS:
            lines = low_rank_rows(chance, field, 60, 40, 10)
            ask = led(field, lines, chance_rows(chance, field, 1, 40)[0])
            self.assertIsNotNone(self.hold_ask(field, lines, 40, ask))
            self.assertIsNone(self.hold_ask(field, lines, 40, tuple(number(field, at * at) for at in range(1, 61))))
        lines = great_rows(0)
        ask = led(0, lines, tuple(number(0, great(100, place), place + 1) for place in range(40)))
        self.assertIsNotNone(self.hold_ask(0, lines, 40, ask))
        self.assertIsNone(self.hold_ask(0, lines, 40, ask[:2] + (number(0, ask[2][0] + 1, ask[2][1]),)))


class Refusals(unittest.TestCase):
    def calls(self, field, lines, width, ask):
        """The five functions over these; an ask of the right count where none is given."""
        if ask is None:
            ask = (NOUGHT,) * len(lines)
        return [
            lambda: reduced(field, lines, width), lambda: rank(field, lines, width),
            lambda: null_base(field, lines, width), lambda: met(field, lines, width, ask),
            lambda: barred(field, lines, width, ask),
        ]

    def all_refuse(self, kind, field, lines, width, ask=None):
        for call in self.calls(field, lines, width, ask):
            with self.assertRaises(kind) as caught:
                call()
            self.assertIs(caught.exception.__class__, kind)

    def asks_refuse(self, kind, field, lines, width, ask):
        for call in self.calls(field, lines, width, ask)[3:]:
            with self.assertRaises(kind) as caught:
                call()
            self.assertIs(caught.exception.__class__, kind)

    def test_widths(self):
        for width in (-40, -1, 41, 42, 60, 10 ** 30):
            self.all_refuse(BadShape, 0, [], width)
            self.all_refuse(BadShape, 2, [], width)
        self.all_refuse(BadShape, 0, [(ONE,) * 41], 41)
        for width in (0, 1, 40):
            self.assertEqual(rank(0, [(ONE,) * width], width), min(width, 1))

    def test_too_many_rows(self):
        for field in SOME_FIELDS:
            self.all_refuse(BadShape, field, [(ONE, ONE)] * 61, 2)
            self.all_refuse(BadShape, field, [()] * 61, 0)
            self.assertEqual(rank(field, [(ONE, ONE)] * 60, 2), 1)
        self.all_refuse(BadShape, 0, [(ONE,)] * 200, 1)

    def test_rows_too_long_or_too_short(self):
        for field in SOME_FIELDS:
            for lines, width in (
                ([(ONE,)], 2), ([(ONE,)], 0), ([()], 1), ([(ONE, ONE, ONE)], 2), ([(ONE, ONE), (ONE,)], 2),
                ([(ONE,), (ONE, ONE)], 2), ([(ONE, ONE), (ONE, ONE, ONE)], 2), ([(ONE,) * 41], 40), ([(ONE,) * 39], 40),
            ):
                self.all_refuse(BadShape, field, lines, width)

    def test_asks_with_another_count(self):
        for field in SOME_FIELDS:
            for lines, width, ask in (
                ([], 2, (ONE,)), ([(ONE,)], 1, ()), ([(ONE,)], 1, (ONE, ONE)), ([(), ()], 0, (NOUGHT,)),
                ([(ONE,)] * 60, 1, (ONE,) * 61), ([(ONE, ONE, ONE)] * 2, 3, (ONE, ONE, ONE)),
            ):
                self.asks_refuse(BadShape, field, lines, width, ask)

    def test_bad_numbers_in_rows(self):
        for field, bads in ((0, ((2, 4), (0, 2), (1, 0), (1, -1), (0, 0))), (5, ((5, 1), (-1, 1), (1, 2), (0, 0)))):
            for bad in bads:
                for lines in ([(bad, ONE)], [(ONE, bad)], [(ONE, ONE), (ONE, bad)], [(bad, ONE), (ONE, ONE)]):
                    self.all_refuse(BadNumber, field, lines, 2)
                self.all_refuse(BadNumber, field, [(NOUGHT, NOUGHT)] * 59 + [(bad, NOUGHT)], 2)

    def test_bad_numbers_in_the_ask(self):
        for field, bads in ((0, ((2, 4), (0, 2), (1, 0), (1, -1), (0, 0))), (5, ((5, 1), (-1, 1), (1, 2), (0, 0)))):
            for bad in bads:
                self.asks_refuse(BadNumber, field, [(ONE,), (ONE,)], 1, (bad, ONE))
                self.asks_refuse(BadNumber, field, [(ONE,), (ONE,)], 1, (ONE, bad))
                # Also where the rows alone tell that the ask is barred, or met.
                self.asks_refuse(BadNumber, field, [(), ()], 0, (ONE, bad))
                self.asks_refuse(BadNumber, field, [(NOUGHT,)], 1, (bad,))
                self.asks_refuse(BadNumber, field, [(bad,)], 1, (bad,))

    def test_bad_fields(self):
        for field in BAD_FIELDS:
            self.all_refuse(BadField, field, [], 0)
            self.all_refuse(BadField, field, [(ONE, ONE)], 2)

    def test_bad_field_ahead_of_bad_shape_and_bad_number(self):
        for field in BAD_FIELDS:
            self.all_refuse(BadField, field, [], -1)
            self.all_refuse(BadField, field, [(ONE,)], 41)
            self.all_refuse(BadField, field, [(ONE,)] * 61, 1)
            self.all_refuse(BadField, field, [(ONE,)], 2)
            self.all_refuse(BadField, field, [((2, 0),)], 1)
            self.asks_refuse(BadField, field, [(ONE,)], 1, ())
            self.asks_refuse(BadField, field, [(ONE,)], 1, ((2, 0),))

    def test_bad_shape_ahead_of_bad_number(self):
        bad = (2, -4)
        for field in SOME_FIELDS:
            self.all_refuse(BadShape, field, [(bad,)], -1)
            self.all_refuse(BadShape, field, [(bad,) * 41], 41)
            self.all_refuse(BadShape, field, [(bad,)] * 61, 1)
            self.all_refuse(BadShape, field, [(bad, ONE), (ONE,)], 2)
            self.all_refuse(BadShape, field, [(ONE,), (bad, ONE)], 2)
            self.all_refuse(BadShape, field, [(bad,)], 2)
            # Every shape is looked at ahead of any number, the ask's too.
            self.asks_refuse(BadShape, field, [(bad, ONE)], 2, ())
            self.asks_refuse(BadShape, field, [(ONE, ONE)], 2, (bad, ONE))
            self.asks_refuse(BadShape, field, [(ONE,)], 2, (bad,))
            self.asks_refuse(BadShape, field, [], -1, (bad,))

    def test_great_numbers_are_refused_likewise(self):
        far = 10 ** 5000
        self.all_refuse(BadNumber, 7, [((far, 1),)], 1)
        self.all_refuse(BadNumber, 0, [((far, far),)], 1)
        self.all_refuse(BadShape, 0, [((far, 1),)], far)

    def test_a_refusal_changes_nothing(self):
        lines, ask = [(ONE, (2, 4)), (ONE, ONE)], (ONE, ONE)
        self.all_refuse(BadNumber, 0, lines, 2, ask)
        self.assertEqual(lines, [(ONE, (2, 4)), (ONE, ONE)])
        self.all_refuse(BadShape, 0, lines, 3, ask)
        self.assertEqual(lines, [(ONE, (2, 4)), (ONE, ONE)])


class HandedInAndTold(unittest.TestCase):
    def setUp(self):
        self.lines = rows(0, (2, 4, 1), (1, 2, 3), (3, 6, 4))
        self.ask = row(0, 1, 2, 3)

    def test_what_was_handed_in_stays_as_it_was(self):
        lines, kept = self.lines, list(self.lines)
        for call in (reduced, rank, null_base):
            call(0, lines, 3)
            self.assertEqual(lines, kept)
        for call in (met, barred):
            call(0, lines, 3, self.ask)
            self.assertEqual(lines, kept)
            self.assertEqual(self.ask, row(0, 1, 2, 3))

    def test_changing_a_told_list_changes_no_later_answer(self):
        for call in (reduced, null_base):
            first = call(0, self.lines, 3)
            again = list(first)
            first.append("more")
            first[0] = None
            self.assertEqual(call(0, self.lines, 3), again)
        self.assertEqual(self.lines, rows(0, (2, 4, 1), (1, 2, 3), (3, 6, 4)))

    def test_a_told_list_is_a_new_one(self):
        ready = rows(0, (1, 0), (0, 1))
        self.assertIsNot(reduced(0, ready, 2), ready)
        self.assertIsNot(reduced(0, [], 2), reduced(0, [], 2))
        self.assertIsNot(null_base(0, ready, 2), null_base(0, ready, 2))

    def test_changing_handed_in_rows_later_changes_nothing_told(self):
        found, base = reduced(0, self.lines, 3), null_base(0, self.lines, 3)
        self.lines.clear()
        self.assertEqual(found, rows(0, (1, 2, 0), (0, 0, 1)))
        self.assertEqual(base, rows(0, (-2, 1, 0)))

    def test_kinds_of_what_is_told(self):
        for told in (reduced(0, self.lines, 3), null_base(0, self.lines, 3)):
            self.assertIs(told.__class__, list)
            for line in told:
                self.assertIs(line.__class__, tuple)
                self.assertEqual([pair.__class__ for pair in line], [tuple] * 3)
        self.assertIs(met(0, self.lines, 3, self.ask).__class__, tuple)
        self.assertIsNone(barred(0, self.lines, 3, self.ask))
        self.assertIsNone(met(0, self.lines, 3, row(0, 1, 2, 4)))
        self.assertIs(barred(0, self.lines, 3, row(0, 1, 2, 4)).__class__, tuple)

    def test_by_name(self):
        self.assertEqual(reduced(field=0, rows=self.lines, width=3), rows(0, (1, 2, 0), (0, 0, 1)))
        self.assertEqual(rank(field=0, rows=self.lines, width=3), 2)
        self.assertEqual(null_base(field=0, rows=self.lines, width=3), rows(0, (-2, 1, 0)))
        self.assertEqual(met(field=0, rows=self.lines, width=3, ask=self.ask), row(0, (1, 5), 0, (3, 5)))
        self.assertIsNone(barred(field=0, rows=self.lines, width=3, ask=self.ask))


if __name__ == "__main__":
    unittest.main()
