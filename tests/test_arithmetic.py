import unittest

from helpers import FIELDS, PRIMES, chance_number, new_chance, number
from stalkweb import arithmetic


class Arithmetic(unittest.TestCase):
    def test_nought_and_one(self):
        self.assertEqual(arithmetic.NOUGHT, (0, 1))
        self.assertEqual(arithmetic.ONE, (1, 1))

    def test_is_nought(self):
        self.assertTrue(arithmetic.is_nought(0, 0))
        self.assertFalse(arithmetic.is_nought(0, 7))
        for prime in PRIMES:
            for whole in range(-2 * prime, 2 * prime + 1):
                self.assertEqual(arithmetic.is_nought(prime, whole), whole in (-2 * prime, -prime, 0, prime, 2 * prime))

    def test_inverse_of_each_rest(self):
        for prime in PRIMES:
            for whole in range(1, prime):
                found = arithmetic.inverse(prime, whole)
                self.assertEqual(found * whole % prime, 1)
                self.assertIn(found, range(1, prime))

    def test_lowest(self):
        self.assertEqual(arithmetic.lowest(0, 6, -4), (-3, 2))
        self.assertEqual(arithmetic.lowest(0, 0, -4), (0, 1))
        self.assertEqual(arithmetic.lowest(5, -1, 7), (2, 1))

    def test_added_multiplied_negative_flipped(self):
        chance = new_chance(3)
        for field in FIELDS:
            for _ in range(20):
                one, other = chance_number(chance, field, 3), chance_number(chance, field, 3)
                total = number(field, one[0] * other[1] + other[0] * one[1], one[1] * other[1])
                self.assertEqual(arithmetic.added(field, one, other), total)
                product = number(field, one[0] * other[0], one[1] * other[1])
                self.assertEqual(arithmetic.multiplied(field, one, other), product)
                self.assertEqual(arithmetic.negative(field, one), number(field, -one[0], one[1]))
                if one[0] != 0:
                    self.assertEqual(arithmetic.flipped(field, one), number(field, one[1], one[0]))

    def test_sums_of_fractions_that_share_parts_of_their_bottoms(self):
        bottoms = [1, 2, 3, 4, 6, 12, 35, 36, 10 ** 40, 6 ** 50, 7 * 10 ** 40]
        for bottom in bottoms:
            for other in bottoms:
                for top, top_other in ((1, 1), (-1, 1), (5, -7), (0, 3), (10 ** 41 + 1, -(10 ** 41)), (11, 13)):
                    one, two = number(0, top, bottom), number(0, top_other, other)
                    told = number(0, one[0] * two[1] + two[0] * one[1], one[1] * two[1])
                    self.assertEqual(arithmetic.added(0, one, two), told)
                    self.assertEqual(arithmetic.added(0, one, arithmetic.negative(0, one)), (0, 1))


if __name__ == "__main__":
    unittest.main()
