import time
import unittest
from fractions import Fraction

from helpers import (
    BAD_FIELDS, NOUGHT, ONE, PRIMES, Case, agreeing, bad_numbers, bad_wholes, chance_number, chance_rows,
    chance_section, chance_stiff_web, chance_table, chance_web, chance_whole, dot, flat, great, hold_web_refusals,
    many_webs, minus, new_chance, noughts, number, row, summed, table, unit, wide_even_web, widest_web,
)
from stalkweb.errors import BadField, BadNumber, BadWeb, BadWhole, NoSquares
from stalkweb.nearest import nearest, square
from stalkweb.whole import sections

# The second place has twice the first one's number.
DOUBLE = (0, (1, 1), ((0, 1, 1, table(0, (2,)), unit(1)),))
# Both have the same number, and so the nearest section has the mean of both.
MEAN = (0, (1, 1), ((0, 1, 1, unit(1), unit(1)),))


def webs_over_fractions(seed):
    chance = new_chance(seed)
    found = [web for web in many_webs(seed) if web[0] == 0] + [DOUBLE, MEAN]
    for _ in range(6):
        found.append(chance_web(chance, 0, [chance.randint(1, 3) for _ in range(4)], 3, (0, 1, 2)))
        found.append(chance_web(chance, 0, [3, 3], 2, (1,), 2))
    return found


def plain_square(columns):
    return sum((Fraction(*pair) ** 2 for column in columns for pair in column), Fraction(0))


def less(one, other):
    return [minus(0, column, taken) for column, taken in zip(one, other)]


class Square(Case):
    def test_told_squares(self):
        self.assertEqual(square(0, []), NOUGHT)
        self.assertEqual(square(0, [()]), NOUGHT)
        self.assertEqual(square(0, [(), (), ()]), NOUGHT)
        self.assertEqual(square(0, [row(0, 3)]), (9, 1))
        self.assertEqual(square(0, [row(0, -3, 4)]), (25, 1))
        self.assertEqual(square(0, [row(0, (1, 2)), (), row(0, (-1, 2), (1, 3))]), (11, 18))
        self.assertEqual(square(0, [row(0, (1, 2)), row(0, (1, 2)), row(0, (1, 2), (1, 2))]), ONE)
        self.assertEqual(square(0, [noughts(3)] * 5), NOUGHT)

    def test_columns_however_many_and_however_long(self):
        chance = new_chance(231)
        for count in (1, 2, 8, 9, 31, 60, 200):
            for room in (0, 1, 2, 3, 4, 41):
                columns = chance_rows(chance, 0, count, room, 2)
                value = plain_square(columns)
                self.assertEqual(square(0, columns), (value.numerator, value.denominator))
        columns = [chance_rows(chance, 0, 1, at % 7)[0] for at in range(31)]
        value = plain_square(columns)
        self.assertEqual(square(0, columns), (value.numerator, value.denominator))

    def test_great_numbers(self):
        tops = [great(4000, seed) for seed in range(6)]
        self.assertEqual(square(0, [(number(0, top),) for top in tops]), (sum(top * top for top in tops), 1))
        pairs = [number(0, (-1) ** at * top, tops[at - 1]) for at, top in enumerate(tops)]
        value = plain_square([pairs])
        self.assertEqual(square(0, [tuple(pairs[:2]), (), tuple(pairs[2:])]), (value.numerator, value.denominator))
        self.assertEqual(square(0, [((1, 10 ** 3999),)] * 100), (1, 10 ** 7996))

    def test_many_great_numbers_with_unlike_bottoms(self):
        pairs = [number(0, great(300, at), great(300, 100 + at)) for at in range(93)]
        columns = [tuple(pairs[at:at + 3]) for at in range(0, 93, 3)]
        start = time.perf_counter()
        told = square(0, columns)
        self.assertLess(time.perf_counter() - start, 10)
        value = plain_square(columns)
        self.assertEqual(told, (value.numerator, value.denominator))

    def test_numbers_that_are_none(self):
        for bad in bad_numbers(0):
            for columns in ([(bad,)], [(ONE,), (bad,)], [(), (ONE, bad), (ONE,)], [(bad, ONE)] * 31, [(bad, bad)]):
                self.refuses(BadNumber, square, 0, columns)

    def test_by_a_prime(self):
        for prime in PRIMES:
            for columns in ([], [()], [(ONE,)], [((1, 2),)], [((prime, 1),)], [((0, 0),), (ONE, ONE)]):
                self.refuses(NoSquares, square, prime, columns)

    def test_no_field(self):
        for field in BAD_FIELDS:
            for columns in ([], [(ONE,)], [((0, 2),)]):
                self.refuses(BadField, square, field, columns)


class Nearest(Case):
    def hold(self, web, whole):
        told = nearest(web, whole)
        self.is_list_of_columns(told, web[1])
        self.assertTrue(agreeing(web, told))
        rest = less(whole, told)
        for base in sections(web):
            self.assertEqual(dot(0, flat(rest), flat(base)), NOUGHT)
        return told

    def test_told_sections(self):
        self.assertEqual(nearest(MEAN, [row(0, 1), row(0, 2)]), [row(0, (3, 2)), row(0, (3, 2))])
        self.assertEqual(nearest(MEAN, [row(0, 1), row(0, -1)]), [row(0, 0), row(0, 0)])
        self.assertEqual(nearest(DOUBLE, [row(0, 5), row(0, 0)]), [row(0, 1), row(0, 2)])
        self.assertEqual(nearest(DOUBLE, [row(0, 0), row(0, 5)]), [row(0, 2), row(0, 4)])
        self.assertEqual(nearest((0, (0,), ()), [()]), [()])
        web = (0, (2, 0, 1), ((0, 2, 1, table(0, (1, 1)), unit(1)),))
        self.assertEqual(nearest(web, [row(0, 1, 0), (), row(0, 0)]), [row(0, (2, 3), (-1, 3)), (), row(0, (1, 3))])

    def test_the_rest_is_square_to_each_section(self):
        chance = new_chance(232)
        for web in webs_over_fractions(232):
            for figures in (1, 2, 5):
                self.hold(web, chance_whole(chance, web, figures))

    def test_no_drawn_section_is_nearer(self):
        chance = new_chance(233)
        nearer = 0
        for web in webs_over_fractions(233):
            whole = chance_whole(chance, web, 2)
            told = nearest(web, whole)
            least = plain_square(less(whole, told))
            for _ in range(5):
                other = chance_section(chance, web)
                self.assertGreaterEqual(plain_square(less(whole, other)), least)
                # Nor one that is but a little off.
                little = summed(0, [ONE, (1, 1000)], [told, other], web[1])
                self.assertGreaterEqual(plain_square(less(whole, little)), least)
                if other != told:
                    self.assertGreater(plain_square(less(whole, other)), least)
                    nearer += 1
        self.assertGreater(nearer, 30)

    def test_of_a_section_and_of_what_is_none(self):
        chance = new_chance(234)
        moved = 0
        for web in webs_over_fractions(234):
            for _ in range(2):
                section = chance_section(chance, web, 3)
                self.assertEqual(nearest(web, section), section)
                whole = chance_whole(chance, web)
                told = self.hold(web, whole)
                self.assertEqual(told == whole, agreeing(web, whole))
                self.assertEqual(nearest(web, told), told)
                moved += told != whole
        self.assertGreater(moved, 20)

    def test_of_a_sum_and_of_a_multiple(self):
        chance = new_chance(235)
        for web in webs_over_fractions(235):
            one, other = chance_whole(chance, web), chance_whole(chance, web)
            factors = [chance_number(chance, 0, 2), chance_number(chance, 0)]
            told = nearest(web, summed(0, factors, [one, other], web[1]))
            self.assertEqual(told, summed(0, factors, [nearest(web, one), nearest(web, other)], web[1]))
            # What the nearest section leaves over has nought as its nearest one.
            self.assertEqual(nearest(web, less(one, nearest(web, one))), [noughts(room) for room in web[1]])

    def test_webs_without_sections_but_nought(self):
        chance = new_chance(236)
        webs = [
            (0, (1,), ((0, 0, 1, unit(1), table(0, (2,))),)), (0, (0, 0), ()), (0, (1, 1), DOUBLE[2] + MEAN[2]),
            (0, (2,), ((0, 0, 2, unit(2), (noughts(2),) * 2),)),
        ]
        for web in webs:
            self.assertEqual(nearest(web, chance_whole(chance, web, 3)), [noughts(room) for room in web[1]])

    def test_webs_without_ties(self):
        chance = new_chance(237)
        for sizes in ((1,), (3, 0, 2), (3,) * 8):
            whole = chance_whole(chance, (0, sizes, ()), 3)
            self.assertEqual(nearest((0, sizes, ()), whole), whole)

    def test_great_numbers(self):
        one, other = number(0, great(4000, 1), great(4000, 2)), number(0, great(4000, 3), great(4000, 4))
        mean = (Fraction(*one) + Fraction(*other)) / 2
        told = (mean.numerator, mean.denominator)
        self.assertEqual(nearest(MEAN, [(one,), (other,)]), [(told,), (told,)])

    def test_eight_places_and_twelve_ties_of_room_three(self):
        chance = new_chance(238)
        ties = []
        for at in range(12):
            first, second = chance_table(chance, 0, 1, 3, 2), chance_table(chance, 0, 1, 3, 2)
            ties.append((at % 8, (3 * at + 1 + at // 8) % 8, 3, first + (noughts(3),) * 2, second + (noughts(3),) * 2))
        webs = [widest_web(chance, 0), wide_even_web(0), (0, (3,) * 8, tuple(ties))]
        webs.append((0, (3,) * 8, tuple(
            (at, at + 1, 3, chance_table(chance, 0, 3, 3, 2), chance_table(chance, 0, 3, 3, 2)) for at in range(7)
        )))
        webs.append(chance_stiff_web(chance, 0, 8, 12, 3))
        start = time.perf_counter()
        tolds = [nearest(web, chance_whole(chance, web, 2)) for web in webs for _ in range(3)]
        self.assertLess(time.perf_counter() - start, 20)
        self.assertGreater(sum(any(flat(told)) for told in tolds), 3)
        for web in webs:
            self.hold(web, chance_whole(chance, web, 2))

    def test_by_a_prime_ahead_of_no_assignment(self):
        for prime in PRIMES:
            web = (prime, (1, 1), ((0, 1, 1, unit(1), unit(1)),))
            for whole in ([(ONE,), (ONE,)], [], [(ONE,)], [((1, 2),), (ONE,)], [(ONE, ONE), (ONE,)]):
                self.refuses(NoSquares, nearest, web, whole)

    def test_no_assignment(self):
        for web in (MEAN, (0, (2, 0, 1), ()), (0, (0,), ())):
            for whole in bad_wholes(web):
                self.refuses(BadWhole, nearest, web, whole)

    def test_webs_that_are_none(self):
        for whole in ([(ONE,), (ONE, ONE)], [], [((2, 2),), (ONE, ONE)]):
            hold_web_refusals(self, nearest, whole)
        # Also by a prime, where there are no squares.
        self.refuses(BadWeb, nearest, (7, (4,), ()), [])


class HandedInAndTold(Case):
    def test_what_was_handed_in_stays_as_it_was(self):
        for whole in ([row(0, 1), row(0, 2)], [], [row(0, 1), ((2, 2),)]):
            self.stays_as_it_was(nearest, MEAN, whole)
            self.stays_as_it_was(square, 0, whole)
            self.stays_as_it_was(square, 3, whole)

    def test_changing_a_told_list_changes_no_later_answer(self):
        whole = [row(0, 1), row(0, 2)]
        section = [row(0, 2), row(0, 2)]
        self.answers_stay(lambda: nearest(MEAN, whole), lambda: nearest(MEAN, section))
        self.assertEqual((whole, section), ([row(0, 1), row(0, 2)], [row(0, 2), row(0, 2)]))
        free_web = (0, (1, 1), ())
        self.answers_stay(lambda: nearest(free_web, whole))
        self.assertEqual(whole, [row(0, 1), row(0, 2)])

    def test_by_name(self):
        self.assertEqual(square(whole=[row(0, 3, 4)], field=0), (25, 1))
        self.assertEqual(nearest(whole=[row(0, 1), row(0, 3)], web=MEAN), [row(0, 2), row(0, 2)])


if __name__ == "__main__":
    unittest.main()
