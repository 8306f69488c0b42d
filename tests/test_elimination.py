import unittest

from helpers import chance_rows, combined, dot, led, low_rank_rows, new_chance, row, rows, turned
from stalkweb import elimination
from stalkweb.arithmetic import NOUGHT, ONE


class Elimination(unittest.TestCase):
    def test_swept(self):
        self.assertEqual(list(elimination.swept(0, row(0, 2, 3), row(0, 1, 5), 0)), list(row(0, 0, -7)))
        self.assertEqual(list(elimination.swept(7, row(7, 0, 3), row(7, 1, 5), 0)), list(row(7, 0, 3)))

    def test_scaled(self):
        self.assertEqual(list(elimination.scaled(0, row(0, 0, -2, 3), 1)), list(row(0, 0, 1, (-3, 2))))
        self.assertEqual(list(elimination.scaled(5, row(5, 2, 4), 0)), list(row(5, 1, 2)))

    def test_first_at(self):
        lines = rows(3, (0, 0), (0, 1), (2, 1))
        self.assertEqual(elimination.first_at(lines, 0), 2)
        self.assertEqual(elimination.first_at(lines, 1), 1)
        self.assertIsNone(elimination.first_at(lines[:1], 0))
        self.assertIsNone(elimination.first_at([], 0))

    def test_stepped_rows_have_nought_at_the_leads_ahead(self):
        chance = new_chance(1)
        for field in (0, 2, 97):
            found = elimination.stepped(field, low_rank_rows(chance, field, 8, 9, 5), 9)
            leads = [lead for lead, line in found]
            self.assertEqual(leads, sorted(set(leads)))
            for at, (lead, line) in enumerate(found):
                self.assertEqual(line[lead], ONE)
                self.assertEqual([line[ahead] for ahead in leads[:at]], [NOUGHT] * at)

    def test_with_leads(self):
        found = elimination.with_leads(0, rows(0, (0, 2, 4), (0, 1, 3)), 3)
        self.assertEqual(found, [(1, row(0, 0, 1, 0)), (2, row(0, 0, 0, 1))])

    def test_wider_and_more_than_may_be_handed_in(self):
        # The turned rows and the ask of 60 rows are 41 rows of 60 numbers.
        chance = new_chance(2)
        lines = chance_rows(chance, 5, 41, 60)
        ask = led(5, lines, chance_rows(chance, 5, 1, 60)[0])
        self.assertEqual(led(5, lines, elimination.solution(5, lines, 60, ask)), ask)

    def test_null_columns(self):
        self.assertEqual(elimination.null_columns(0, rows(0, (1, 2, 3)), 3), rows(0, (-2, 1, 0), (-3, 0, 1)))

    def test_solution(self):
        self.assertEqual(elimination.solution(0, rows(0, (2, 4)), 2, row(0, 3)), row(0, (3, 2), 0))
        self.assertIsNone(elimination.solution(0, rows(0, (1, 1), (2, 2)), 2, row(0, 1, 1)))

    def test_weights_against(self):
        self.assertEqual(elimination.weights_against(0, rows(0, (1, 1), (2, 2)), 2, row(0, 1, 3)), row(0, -2, 1))
        self.assertEqual(elimination.weights_against(5, [(), ()], 0, row(5, 0, 2)), row(5, 0, 3))
        self.assertIsNone(elimination.weights_against(0, rows(0, (1, 1), (2, 2)), 2, row(0, 1, 2)))
        self.assertIsNone(elimination.weights_against(0, [], 2, ()))

    def test_turned(self):
        self.assertEqual(elimination.turned(rows(3, (1, 2), (0, 1)), 2), rows(3, (1, 0), (2, 1)))
        self.assertEqual(elimination.turned([], 2), [(), ()])
        self.assertEqual(elimination.turned([(), ()], 0), [])

    def test_the_reckoning_of_the_tests(self):
        lines = rows(7, (1, 2), (3, 4))
        self.assertEqual(dot(7, row(7, 1, 2), row(7, 3, 6)), (1, 1))
        self.assertEqual(led(7, lines, row(7, 1, 1)), row(7, 3, 0))
        self.assertEqual(combined(7, row(7, 1, 1), lines, 2), row(7, 4, 6))
        self.assertEqual(turned(lines, 2), rows(7, (1, 3), (2, 4)))


if __name__ == "__main__":
    unittest.main()
