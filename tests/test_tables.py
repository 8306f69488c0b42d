import unittest

from helpers import (
    BAD_FIELDS, NOUGHT, ONE, SOME_FIELDS, Case, bad_numbers, chance_rows, chance_stiff_table, chance_table, great,
    led, new_chance, noughts, number, plain_rank, row, table, unit,
)
from stalkweb.errors import BadField, BadNumber, BadShape
from stalkweb.numbers import is_number
from stalkweb.tables import behind, lead, still, turned_back

BAD = (2, -4)


class Lead(Case):
    def test_told_columns(self):
        self.assertEqual(lead(0, (), ()), ())
        self.assertEqual(lead(0, (), row(0, 1, 2)), ())
        self.assertEqual(lead(0, ((), ()), ()), (NOUGHT, NOUGHT))
        self.assertEqual(lead(0, table(0, (1, 2), (3, 4)), row(0, 5, 6)), row(0, 17, 39))
        self.assertEqual(lead(0, table(0, ((1, 2), (-1, 3))), row(0, 3, 2)), row(0, (5, 6)))
        self.assertEqual(lead(7, table(7, (1, 2), (3, 4)), row(7, 5, 6)), row(7, 3, 4))
        self.assertEqual(lead(2, table(2, (1, 1, 1)), row(2, 1, 1, 0)), row(2, 0))

    def test_all_sizes(self):
        chance = new_chance(41)
        for field in SOME_FIELDS:
            for rows in range(9):
                for length in range(9):
                    lines = chance_table(chance, field, rows, length)
                    column = chance_rows(chance, field, 1, length)[0]
                    told = lead(field, lines, column)
                    self.assertIs(told.__class__, tuple)
                    self.assertEqual(told, led(field, lines, column))
                    self.assertTrue(all(is_number(field, pair) for pair in told))

    def test_great_numbers(self):
        lines = tuple(
            tuple(number(0, great(4000, 3 * k + j), great(4000, 40 + 3 * k + j)) for j in range(2)) for k in range(2)
        )
        column = (number(0, great(4000, 91), great(4000, 92)), number(0, -great(4000, 93), great(4000, 94)))
        self.assertEqual(lead(0, lines, column), led(0, lines, column))

    def test_rows_of_another_length_than_the_column(self):
        for field in SOME_FIELDS:
            for lines, column in (
                (table(field, (1,)), ()), (((),), row(field, 1)), (table(field, (1, 0)), row(field, 1)),
                (table(field, (1,)), row(field, 1, 0)), ((row(field, 1), row(field, 1, 0)), row(field, 1)),
                ((row(field, 1), row(field, 1, 0)), row(field, 1, 0)), ((row(field, 1), ()), row(field, 1)),
                (((), row(field, 1)), ()),
            ):
                self.refuses(BadShape, lead, field, lines, column)

    def test_what_is_no_number(self):
        for field in SOME_FIELDS:
            for bad in bad_numbers(field):
                self.refuses(BadNumber, lead, field, ((bad, ONE),), (ONE, ONE))
                self.refuses(BadNumber, lead, field, ((ONE, ONE), (ONE, bad)), (ONE, ONE))
                self.refuses(BadNumber, lead, field, ((ONE, ONE),), (ONE, bad))
                self.refuses(BadNumber, lead, field, ((NOUGHT,),), (bad,))
                # The column is looked at also where no row asks for its numbers.
                self.refuses(BadNumber, lead, field, (), (bad,))
                self.refuses(BadNumber, lead, field, (), (ONE, ONE, bad))

    def test_which_refusal_goes_first(self):
        for field in BAD_FIELDS:
            self.refuses(BadField, lead, field, (), ())
            self.refuses(BadField, lead, field, ((ONE,),), (ONE, ONE))
            self.refuses(BadField, lead, field, ((BAD,),), (BAD,))
        for field in SOME_FIELDS:
            self.refuses(BadShape, lead, field, ((BAD,),), (ONE, ONE))
            self.refuses(BadShape, lead, field, ((BAD, ONE), (ONE,)), (ONE, ONE))
            self.refuses(BadShape, lead, field, ((ONE,),), (BAD, ONE))
            self.refuses(BadShape, lead, field, ((ONE,), (BAD, BAD)), (BAD,))


class Behind(Case):
    def test_told_tables(self):
        self.assertEqual(behind(0, (), ()), ())
        self.assertEqual(behind(0, (), table(0, (1, 2))), ())
        self.assertEqual(behind(0, ((), ()), ()), ((), ()))
        self.assertEqual(behind(0, table(0, (1, 2)), ((), ())), ((),))
        self.assertEqual(behind(0, table(0, (1, 2), (3, 4)), table(0, (0, 1), (1, 0))), table(0, (2, 1), (4, 3)))
        self.assertEqual(behind(0, table(0, (0, 1), (1, 0)), table(0, (1, 2), (3, 4))), table(0, (3, 4), (1, 2)))
        self.assertEqual(behind(3, table(3, (2,), (1,)), table(3, (2, 1))), table(3, (1, 2), (2, 1)))

    def test_first_one_and_then_the_other(self):
        chance = new_chance(42)
        for field in SOME_FIELDS:
            for rows in range(4):
                for between in (0, 1, 2, 8):
                    for length in (0, 1, 3, 8):
                        one = chance_table(chance, field, rows, between)
                        other = chance_table(chance, field, between, length)
                        both = behind(field, one, other)
                        self.assertIs(both.__class__, tuple)
                        expected = length if between else 0
                        self.assertEqual([(line.__class__, len(line)) for line in both], [(tuple, expected)] * rows)
                        if between:
                            column = chance_rows(chance, field, 1, length)[0]
                            self.assertEqual(lead(field, both, column), lead(field, one, lead(field, other, column)))

    def test_one_to_eight_rows(self):
        chance = new_chance(43)
        for field in SOME_FIELDS:
            for room in range(1, 9):
                one, other = chance_table(chance, field, room, room), chance_table(chance, field, room, room)
                column = chance_rows(chance, field, 1, room)[0]
                told = lead(field, behind(field, one, other), column)
                self.assertEqual(told, led(field, one, led(field, other, column)))
                self.assertEqual(behind(field, one, unit(room)), one)
                self.assertEqual(behind(field, unit(room), one), one)

    def test_shapes(self):
        for field in SOME_FIELDS:
            for one, other in (
                (table(field, (1,)), ()), (((),), table(field, (1,))), (table(field, (1, 0)), table(field, (1,))),
                (table(field, (1,)), table(field, (1,), (0,))),
                ((row(field, 1, 0), row(field, 1)), table(field, (1,), (1,))),
                ((row(field, 1), row(field, 1, 0)), table(field, (1,))),
                (table(field, (1, 1)), (row(field, 1), row(field, 1, 0))), (table(field, (1, 1)), ((), row(field, 1))),
                ((), (row(field, 1), row(field, 1, 0))), ((), (row(field, 1), ())), ((), ((), row(field, 1))),
            ):
                self.refuses(BadShape, behind, field, one, other)

    def test_what_is_no_number(self):
        for field in SOME_FIELDS:
            for bad in bad_numbers(field):
                self.refuses(BadNumber, behind, field, ((ONE, bad),), ((ONE,), (ONE,)))
                self.refuses(BadNumber, behind, field, ((ONE, ONE), (bad, ONE)), ((ONE,), (ONE,)))
                self.refuses(BadNumber, behind, field, ((ONE, NOUGHT),), ((ONE,), (bad,)))
                self.refuses(BadNumber, behind, field, ((ONE, ONE),), ((bad,), (ONE,)))
                # Also where one has no rows, or the other one no numbers.
                self.refuses(BadNumber, behind, field, (), ((ONE, bad),))
                self.refuses(BadNumber, behind, field, ((bad, ONE),), ((), ()))

    def test_which_refusal_goes_first(self):
        for field in BAD_FIELDS:
            self.refuses(BadField, behind, field, (), ())
            self.refuses(BadField, behind, field, ((ONE,),), ())
            self.refuses(BadField, behind, field, ((BAD,),), ((BAD,),))
        for field in SOME_FIELDS:
            self.refuses(BadShape, behind, field, ((BAD,),), ())
            self.refuses(BadShape, behind, field, ((BAD, ONE),), ((ONE,), (ONE, ONE)))
            self.refuses(BadShape, behind, field, ((BAD, ONE), (ONE,)), ((ONE,), (ONE,)))
            self.refuses(BadShape, behind, field, ((ONE,),), ((BAD,), (BAD,)))
            self.refuses(BadShape, behind, field, (), ((BAD,), (ONE, ONE)))


class Still(Case):
    def test_rooms(self):
        for field in SOME_FIELDS:
            for room in range(9):
                told = still(field, room)
                self.assertIs(told.__class__, tuple)
                self.assertEqual(told, unit(room))
        self.assertEqual(still(0, 2), (((1, 1), (0, 1)), ((0, 1), (1, 1))))

    def test_columns_are_left_as_they_are(self):
        chance = new_chance(44)
        for field in SOME_FIELDS:
            for room in range(9):
                column = chance_rows(chance, field, 1, room)[0]
                self.assertEqual(lead(field, still(field, room), column), column)

    def test_bad_fields(self):
        for field in BAD_FIELDS:
            self.refuses(BadField, still, field, 0)
            self.refuses(BadField, still, field, 2)


class TurnedBack(Case):
    def test_told_tables(self):
        self.assertEqual(turned_back(0, ()), ())
        self.assertEqual(turned_back(0, table(0, (2,))), table(0, ((1, 2),)))
        self.assertEqual(turned_back(0, table(0, (1, 2), (3, 4))), table(0, (-2, 1), ((3, 2), (-1, 2))))
        self.assertEqual(turned_back(0, table(0, (0, 1), (1, 0))), table(0, (0, 1), (1, 0)))
        self.assertEqual(turned_back(5, table(5, (0, 2), (1, 1))), table(5, (2, 1), (3, 0)))
        self.assertEqual(turned_back(2, table(2, (1, 1), (0, 1))), table(2, (1, 1), (0, 1)))

    def test_both_ways_about_nothing_is_changed(self):
        chance = new_chance(45)
        for field in SOME_FIELDS:
            for room in range(7):
                lines = chance_stiff_table(chance, field, room)
                back = turned_back(field, lines)
                self.assertIs(back.__class__, tuple)
                self.assertTrue(all(line.__class__ is tuple for line in back))
                self.assertEqual(behind(field, lines, back), unit(room))
                self.assertEqual(behind(field, back, lines), unit(room))
                self.assertEqual(turned_back(field, back), lines)

    def test_none_where_the_rank_is_less(self):
        chance = new_chance(46)
        for field in SOME_FIELDS:
            for room in (1, 2, 3, 4):
                self.assertIsNone(turned_back(field, (noughts(room),) * room))
                for _ in range(6):
                    lines = chance_table(chance, field, room, room)
                    self.assertEqual(turned_back(field, lines) is None, plain_rank(field, lines) < room)
        self.assertIsNone(turned_back(0, table(0, (1, 2), (2, 4))))
        self.assertIsNone(turned_back(5, table(5, (1, 2), (3, 1))))
        self.assertIsNotNone(turned_back(0, table(0, (1, 2), (3, 1))))

    def test_none_where_the_table_is_not_square(self):
        for field in SOME_FIELDS:
            for lines in (
                ((),), ((), ()), table(field, (1, 0)), table(field, (1,), (0,)), table(field, (1, 0, 0), (0, 1, 0)),
            ):
                self.assertIsNone(turned_back(field, lines))

    def test_what_is_no_number(self):
        for field in SOME_FIELDS:
            for bad in bad_numbers(field):
                self.refuses(BadNumber, turned_back, field, ((bad,),))
                self.refuses(BadNumber, turned_back, field, ((ONE, NOUGHT), (NOUGHT, bad)))
                # Also of a table that does not turn back anyway.
                self.refuses(BadNumber, turned_back, field, ((ONE, bad),))
                self.refuses(BadNumber, turned_back, field, ((ONE,), (bad,)))
                self.refuses(BadNumber, turned_back, field, ((NOUGHT, NOUGHT), (NOUGHT, bad)))

    def test_bad_fields(self):
        for field in BAD_FIELDS:
            self.refuses(BadField, turned_back, field, ())
            self.refuses(BadField, turned_back, field, ((BAD,),))


class ByName(unittest.TestCase):
    def test_by_name(self):
        lines = table(0, (1, 2), (3, 4))
        self.assertEqual(lead(field=0, table=lines, column=row(0, 1, 1)), row(0, 3, 7))
        self.assertEqual(behind(field=0, table=lines, other=unit(2)), lines)
        self.assertEqual(still(field=0, room=1), ((ONE,),))
        self.assertEqual(turned_back(field=0, table=table(0, (4,))), table(0, ((1, 4),)))


if __name__ == "__main__":
    unittest.main()
