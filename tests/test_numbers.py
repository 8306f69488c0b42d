import unittest

from helpers import BAD_FIELDS, FIELDS, PRIMES, chance_number, great, new_chance, number
from stalkweb.errors import BadField, BadNumber, Nought, WebError
from stalkweb.numbers import is_field, is_number, less, made, over, plus, times

# Primes, great and small, at which laws are tried.
SOME_FIELDS = (0, 2, 3, 5, 7, 89, 97)
# Pairs that are no number of the field.
BAD_FRACTIONS = ((0, 2), (0, 0), (0, -1), (2, 4), (-2, 4), (3, 0), (1, -1), (-1, -2), (6, 3), (4, 4), (1, -10 ** 300))


def bad_rests(prime):
    bad_tops = ((-1, 1), (prime, 1), (prime + 1, 1), (-prime, 1), (10 ** 300, 1))
    bad_bottoms = ((1, 2), (0, 0), (1, 0), (1, -1), (0, prime + 1))
    return bad_tops + bad_bottoms


def bad_numbers(field):
    return BAD_FRACTIONS if field == 0 else bad_rests(field)


class IsField(unittest.TestCase):
    def test_nought_stands_for_fractions(self):
        self.assertIs(is_field(0), True)

    def test_each_prime_to_97(self):
        for prime in PRIMES:
            self.assertIs(is_field(prime), True, prime)

    def test_each_number_between(self):
        for whole in range(2, 98):
            self.assertIs(is_field(whole), whole in PRIMES, whole)

    def test_one_and_below_nought(self):
        for whole in (1, -1, -2, -3, -5, -7, -97, -10 ** 30):
            self.assertIs(is_field(whole), False, whole)

    def test_beyond_the_limit(self):
        for whole in (98, 99, 100, 101, 102, 103, 107, 127, 997, 10 ** 9 + 7, 10 ** 4000):
            self.assertIs(is_field(whole), False)

    def test_by_name(self):
        self.assertIs(is_field(field=97), True)


class BadFields(unittest.TestCase):
    def refused(self, field, one, other):
        for call in (
            lambda: is_number(field, one),
            lambda: made(field, one[0], one[1]),
            lambda: made(field, one[0]),
            lambda: plus(field, one, other),
            lambda: times(field, one, other),
            lambda: less(field, one),
            lambda: over(field, one),
        ):
            with self.assertRaises(BadField):
                call()

    def test_beside_numbers(self):
        for field in BAD_FIELDS:
            self.refused(field, (1, 1), (2, 1))

    def test_ahead_of_bad_numbers_and_of_nought(self):
        for field in BAD_FIELDS:
            self.refused(field, (1, 0), (2, 0))
            self.refused(field, (0, 0), (2, -4))
            self.refused(field, (0, 1), (0, 1))
            self.refused(field, (-3, 1), (200, 1))


class IsNumber(unittest.TestCase):
    def test_fractions_in_lowest_terms(self):
        for pair in ((0, 1), (1, 1), (-1, 1), (7, 1), (1, 2), (-1, 2), (3, 4), (-9, 4), (99, 98), (10 ** 300, 1)):
            self.assertIs(is_number(0, pair), True, pair)

    def test_fractions_not_in_lowest_terms(self):
        for pair in ((2, 4), (-2, 4), (3, 3), (6, 3), (0, 2), (0, 7), (99, 33), (10 ** 300, 10)):
            self.assertIs(is_number(0, pair), False, pair)

    def test_bottoms_of_nought_and_below(self):
        for pair in ((0, 0), (1, 0), (-1, 0), (2, 0), (0, -1), (1, -1), (-1, -2), (3, -2)):
            self.assertIs(is_number(0, pair), False, pair)

    def test_each_small_pair_of_fractions(self):
        for top in range(-12, 13):
            for bottom in range(-12, 13):
                expected = bottom > 0 and number(0, top, bottom) == (top, bottom)
                self.assertIs(is_number(0, (top, bottom)), expected)

    def test_each_top_by_each_prime(self):
        for prime in PRIMES:
            for top in range(-prime - 1, 2 * prime + 2):
                self.assertIs(is_number(prime, (top, 1)), 0 <= top <= prime - 1)

    def test_other_bottoms_by_a_prime(self):
        for prime in PRIMES:
            for bottom in (-prime, -1, 0, 2, 3, prime, prime + 1, 10 ** 50):
                for top in (-1, 0, 1, prime):
                    self.assertIs(is_number(prime, (top, bottom)), False)

    def test_great_ones(self):
        top, bottom = number(0, great(4000, 1), great(4000, 2))
        self.assertIs(is_number(0, (top, bottom)), True)
        self.assertIs(is_number(0, (-top, bottom)), True)
        self.assertIs(is_number(0, (2 * top, 2 * bottom)), False)
        self.assertIs(is_number(0, (top, -bottom)), False)
        self.assertIs(is_number(97, (great(4000, 3), 1)), False)

    def test_by_name(self):
        self.assertIs(is_number(field=0, number=(1, 2)), True)


class Made(unittest.TestCase):
    def test_small_fractions(self):
        for top in range(-20, 21):
            for bottom in list(range(-20, 0)) + list(range(1, 21)):
                found = made(0, top, bottom)
                self.assertEqual(found, number(0, top, bottom))
                self.assertIs(is_number(0, found), True)

    def test_named_cases(self):
        self.assertEqual(made(0, 6, 4), (3, 2))
        self.assertEqual(made(0, 6, -4), (-3, 2))
        self.assertEqual(made(0, -6, -4), (3, 2))
        self.assertEqual(made(0, 0, -4), (0, 1))
        self.assertEqual(made(7, 1, 3), (5, 1))
        self.assertEqual(made(7, -1, 3), (2, 1))
        self.assertEqual(made(2, -3, -5), (1, 1))

    def test_bottom_left_out(self):
        self.assertEqual(made(0, -5), (-5, 1))
        self.assertEqual(made(0, 0), (0, 1))
        for prime in PRIMES:
            for top in (-prime - 1, -prime, -1, 0, 1, prime - 1, prime, prime + 1, 3 * prime + 2):
                self.assertEqual(made(prime, top), (top % prime, 1))

    def test_by_each_prime(self):
        for prime in PRIMES:
            for bottom in [whole for whole in range(-2 * prime, 2 * prime) if whole % prime != 0]:
                for top in (-2 * prime, -1, 0, 1, 5, prime, prime + 1):
                    self.assertEqual(made(prime, top, bottom), number(prime, top, bottom))

    def test_tops_that_are_multiples_of_the_prime(self):
        for prime in PRIMES:
            for top in (-3 * prime, -prime, 0, prime, prime ** 40):
                self.assertEqual(made(prime, top, prime - 1), (0, 1))

    def test_nought_below(self):
        for top in (-3, 0, 1, 8):
            with self.assertRaises(Nought):
                made(0, top, 0)
        for prime in PRIMES:
            for bottom in (-3 * prime, -prime, 0, prime, 2 * prime, prime ** 30, prime * great(400, 4)):
                for top in (0, 1, prime, -prime):
                    with self.assertRaises(Nought):
                        made(prime, top, bottom)

    def test_a_prime_does_not_make_nought_of_fractions(self):
        for prime in PRIMES:
            self.assertEqual(made(0, 1, prime), (1, prime))
            self.assertEqual(made(0, 1, -prime), (-1, prime))

    def test_some_hundred_figures_and_to_4000(self):
        for figures in (100, 500, 900, 4000):
            top, bottom, shared = great(figures, 5), great(figures, 6), great(figures // 2, 7)
            for one, other in ((top, bottom), (-top, bottom), (top, -bottom), (-top, -bottom)):
                self.assertEqual(made(0, one, other), number(0, top * (-1 if one * other < 0 else 1), bottom))
                self.assertTrue(made(0, one * shared, other * shared) == made(0, one, other))
            for prime in PRIMES:
                # One more than a multiple of the prime is no multiple.
                self.assertEqual(made(prime, -top, prime * bottom + 1), (-top % prime, 1))

    def test_by_name(self):
        self.assertEqual(made(field=0, top=2, bottom=4), (1, 2))
        self.assertEqual(made(5, 3, bottom=2), (4, 1))


class Sums(unittest.TestCase):
    def test_fractions(self):
        self.assertEqual(plus(0, (1, 2), (1, 3)), (5, 6))
        self.assertEqual(plus(0, (1, 2), (-1, 2)), (0, 1))
        self.assertEqual(plus(0, (1, 6), (1, 3)), (1, 2))
        self.assertEqual(times(0, (2, 3), (3, 4)), (1, 2))
        self.assertEqual(times(0, (-2, 3), (0, 1)), (0, 1))
        self.assertEqual(times(0, (-2, 3), (-3, 2)), (1, 1))
        self.assertEqual(less(0, (2, 3)), (-2, 3))
        self.assertEqual(less(0, (-2, 3)), (2, 3))
        self.assertEqual(less(0, (0, 1)), (0, 1))
        self.assertEqual(over(0, (2, 3)), (3, 2))
        self.assertEqual(over(0, (-2, 3)), (-3, 2))
        self.assertEqual(over(0, (1, 1)), (1, 1))

    def test_each_pair_by_small_primes(self):
        for prime in (2, 3, 5, 7):
            for one in range(prime):
                self.assertEqual(less(prime, (one, 1)), (-one % prime, 1))
                for other in range(prime):
                    self.assertEqual(plus(prime, (one, 1), (other, 1)), ((one + other) % prime, 1))
                    self.assertEqual(times(prime, (one, 1), (other, 1)), (one * other % prime, 1))

    def test_over_by_each_prime(self):
        for prime in PRIMES:
            for top in range(1, prime):
                self.assertEqual(over(prime, (top, 1)), number(prime, 1, top))

    def test_by_great_primes(self):
        self.assertEqual(plus(97, (96, 1), (96, 1)), (95, 1))
        self.assertEqual(times(97, (96, 1), (96, 1)), (1, 1))
        self.assertEqual(less(97, (1, 1)), (96, 1))
        self.assertEqual(less(97, (0, 1)), (0, 1))
        self.assertEqual(over(89, (2, 1)), (45, 1))

    def test_five_hundred_figures(self):
        one, other = number(0, -great(500, 8), great(500, 9)), number(0, great(500, 10), great(500, 11))
        total = number(0, one[0] * other[1] + other[0] * one[1], one[1] * other[1])
        self.assertEqual(plus(0, one, other), total)
        self.assertEqual(times(0, one, other), number(0, one[0] * other[0], one[1] * other[1]))
        self.assertEqual(less(0, one), (-one[0], one[1]))
        self.assertEqual(over(0, one), (-one[1], -one[0]))
        self.assertEqual(over(0, other), (other[1], other[0]))

    def test_nought_has_nothing_over_it(self):
        for field in FIELDS:
            with self.assertRaises(Nought):
                over(field, (0, 1))

    def test_by_name(self):
        self.assertEqual(plus(field=0, one=(1, 1), other=(1, 2)), (3, 2))
        self.assertEqual(times(field=0, one=(3, 1), other=(1, 2)), (3, 2))
        self.assertEqual(less(field=5, number=(1, 1)), (4, 1))
        self.assertEqual(over(field=5, number=(2, 1)), (3, 1))


class BadNumbers(unittest.TestCase):
    def test_first_second_and_both(self):
        for field in SOME_FIELDS:
            for bad in bad_numbers(field):
                for one, other in ((bad, (1, 1)), ((1, 1), bad), (bad, bad), ((0, 1), bad), (bad, (0, 1))):
                    for call in (plus, times):
                        with self.assertRaises(BadNumber):
                            call(field, one, other)

    def test_of_one_number(self):
        for field in SOME_FIELDS:
            for bad in bad_numbers(field):
                for call in (less, over):
                    with self.assertRaises(BadNumber):
                        call(field, bad)

    def test_ahead_of_nought(self):
        # Pairs with a top that is nought in the field, but no numbers of it.
        for field, bad in ((0, (0, 2)), (0, (0, -1)), (0, (0, 0)), (5, (5, 1)), (5, (0, 2)), (2, (-2, 1))):
            with self.assertRaises(BadNumber):
                over(field, bad)

    def test_of_one_field_is_none_of_another(self):
        self.assertEqual(plus(7, (6, 1), (6, 1)), (5, 1))
        with self.assertRaises(BadNumber):
            plus(5, (6, 1), (1, 1))
        with self.assertRaises(BadNumber):
            plus(5, (1, 1), (1, 2))
        self.assertEqual(plus(0, (6, 1), (1, 2)), (13, 2))

    def test_refusals_of_great_numbers_can_be_told(self):
        # More figures than Python writes out: a refusal that wrote them would be another error.
        far = 10 ** 5000
        for field, bad in ((7, (far, 1)), (0, (far, -far)), (0, (far, far))):
            with self.assertRaises(BadNumber) as caught:
                plus(field, bad, (0, 1))
            self.assertIsInstance(str(caught.exception), str)
        for field in (far, -far, 10 ** 40):
            with self.assertRaises(BadField):
                is_number(field, (0, 1))
            with self.assertRaises(BadField):
                less(field, (1, 1))
        with self.assertRaises(Nought):
            made(0, far, 0)

    def test_are_web_errors(self):
        for field, call in ((4, less), (5, less)):
            with self.assertRaises(WebError):
                call(field, (5, 1))


class Laws(unittest.TestCase):
    def numbers(self, field, figures):
        chance = new_chance(field + figures)
        some = [chance_number(chance, field, figures), chance_number(chance, field, figures)]
        return [(0, 1), (1, 1), less(field, (1, 1))] + some

    def triples(self):
        for field in SOME_FIELDS:
            for figures in (1, 500):
                found = self.numbers(field, figures)
                for one in found:
                    for two in found:
                        for three in found:
                            yield field, one, two, three

    def test_order_and_bracketing(self):
        for field, one, two, three in self.triples():
            for call in (plus, times):
                self.assertEqual(call(field, one, two), call(field, two, one))
                self.assertEqual(call(field, one, call(field, two, three)), call(field, call(field, one, two), three))

    def test_a_product_of_a_sum_is_the_sum_of_the_products(self):
        for field, one, two, three in self.triples():
            left = times(field, one, plus(field, two, three))
            self.assertEqual(left, plus(field, times(field, one, two), times(field, one, three)))

    def test_less_and_over_undo(self):
        for field, one, two, three in self.triples():
            self.assertEqual(plus(field, one, less(field, one)), (0, 1))
            self.assertEqual(plus(field, plus(field, two, one), less(field, one)), two)
            self.assertEqual(less(field, less(field, one)), one)
            if one != (0, 1):
                self.assertEqual(times(field, one, over(field, one)), (1, 1))
                self.assertEqual(times(field, times(field, two, one), over(field, one)), two)
                self.assertEqual(over(field, over(field, one)), one)

    def test_nought_and_one_change_nothing(self):
        for field, one, two, three in self.triples():
            self.assertEqual(plus(field, one, (0, 1)), one)
            self.assertEqual(times(field, one, (1, 1)), one)
            self.assertEqual(times(field, one, (0, 1)), (0, 1))

    def test_all_that_is_told_is_a_number(self):
        for field, one, two, three in self.triples():
            for told in (plus(field, one, two), times(field, one, two), less(field, one)):
                self.assertIsInstance(told, tuple)
                self.assertTrue(is_number(field, told))


if __name__ == "__main__":
    unittest.main()
