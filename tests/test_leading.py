import unittest

from helpers import (
    NOUGHT, SOME_FIELDS, chance_stiff_table, chance_table, led as told_led, new_chance, plain_rank, row, table, unit,
)
from stalkweb.leading import joined, led, paired, still_table, undone


class Leading(unittest.TestCase):
    def test_paired(self):
        self.assertEqual(paired(0, (), ()), NOUGHT)
        self.assertEqual(paired(5, (), ()), NOUGHT)
        self.assertEqual(paired(0, row(0, 1, (1, 2)), row(0, (1, 3), 3)), (11, 6))
        self.assertEqual(paired(5, row(5, 2, 4), row(5, 3, 3)), (3, 1))

    def test_led(self):
        self.assertEqual(led(0, (), row(0, 1)), ())
        self.assertEqual(led(0, ((), ()), ()), (NOUGHT, NOUGHT))
        self.assertEqual(led(0, table(0, (1, 2), (0, -1)), row(0, 3, 4)), row(0, 11, -4))

    def test_joined(self):
        chance = new_chance(31)
        for field in SOME_FIELDS:
            for rows, between, length in ((0, 0, 0), (0, 2, 3), (2, 0, 0), (2, 1, 3), (3, 3, 3)):
                one = chance_table(chance, field, rows, between)
                other = chance_table(chance, field, between, length)
                for column in unit(length):
                    both = joined(field, one, other, length)
                    self.assertEqual([len(line) for line in both], [length] * rows)
                    self.assertEqual(led(field, both, column), led(field, one, led(field, other, column)))

    def test_joined_where_the_other_has_no_rows(self):
        for field in SOME_FIELDS:
            self.assertEqual(joined(field, ((), ()), (), 3), ((NOUGHT,) * 3,) * 2)
            self.assertEqual(joined(field, ((), ()), (), 0), ((), ()))
            self.assertEqual(joined(field, (), (), 3), ())

    def test_still_table(self):
        for room in range(4):
            self.assertEqual(still_table(room), unit(room))

    def test_undone(self):
        chance = new_chance(32)
        for field in SOME_FIELDS:
            self.assertEqual(undone(field, (), 0), ())
            for room in (1, 2, 3):
                for lines in (chance_stiff_table(chance, field, room), chance_table(chance, field, room, room)):
                    back = undone(field, lines, room)
                    self.assertEqual(back is not None, plain_rank(field, lines) == room)
                    if back is not None:
                        self.assertEqual(tuple(told_led(field, lines, column) for column in zip(*back)), unit(room))

    def test_undone_where_the_table_is_for_another_room(self):
        for field in SOME_FIELDS:
            self.assertIsNone(undone(field, (), 2))
            self.assertIsNone(undone(field, ((), ()), 0))
            self.assertIsNone(undone(field, table(field, (1, 0)), 2))
            self.assertIsNone(undone(field, table(field, (1,), (0,)), 1))
            self.assertIsNone(undone(field, (row(field, 1), row(field, 0, 1)), 2))


if __name__ == "__main__":
    unittest.main()
