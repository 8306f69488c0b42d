import time
import unittest

from helpers import (
    NOUGHT, ONE, SOME_FIELDS, Case, agreeing, bad_numbers, chance_number, chance_whole, every_columns, flat,
    hold_web_refusals, many_webs, new_chance, noughts, plain_rank, row, small_webs, summed, table, unit,
    wide_even_web, widest_web,
)
from stalkweb.errors import BadWeb, BadWhole, NoEnd, NoSection
from stalkweb.numbers import is_number
from stalkweb.rows import null_base
from stalkweb.webs import agrees, great_rows, width_of
from stalkweb.whole import count, factors_of, free, number_of, numbered, sections, sum_of

EVEN = (5, (1, 1), ((0, 1, 1, table(5, (2,)), table(5, (3,))),))


def leads(web):
    """The leads of the great rows, by ranks of what stands ahead alone."""
    lines = great_rows(web)
    ranks = [plain_rank(web[0], [line[:at] for line in lines]) for at in range(sum(web[1]) + 1)]
    return [at for at in range(sum(web[1])) if ranks[at + 1] > ranks[at]]


class Sections(Case):
    def test_told_bases(self):
        self.assertEqual(sections(EVEN), [[row(5, 4), row(5, 1)]])
        web = (0, (1, 1), ((0, 1, 1, table(0, (2,)), table(0, (3,))),))
        self.assertEqual(sections(web), [[row(0, (3, 2)), row(0, 1)]])
        self.assertEqual(sections((0, (2, 0), ())), [[row(0, 1, 0), ()], [row(0, 0, 1), ()]])
        self.assertEqual(sections((0, (0,), ())), [])
        self.assertEqual(sections((3, (1,), ((0, 0, 1, unit(1), table(3, (2,))),))), [])
        # Round a ring of two ties nothing is left where they turn a column to another one.
        there = (0, 1, 1, unit(1), unit(1))
        self.assertEqual(sections((0, (1, 1), (there, (1, 0, 1, unit(1), table(0, (2,)))))), [])
        self.assertEqual(sections((2, (1, 1), (there, (1, 0, 1, unit(1), unit(1))))), [[(ONE,), (ONE,)]])

    def test_all_sorts_of_webs(self):
        for seed in (91, 92):
            for web in many_webs(seed):
                base = sections(web)
                self.assertIs(base.__class__, list)
                self.assertEqual([flat(whole) for whole in base], null_base(web[0], great_rows(web), width_of(web)))
                free_places = [at for at in range(sum(web[1])) if at not in leads(web)]
                self.assertEqual(len(base), len(free_places))
                for place, whole in zip(free_places, base):
                    self.is_list_of_columns(whole, web[1])
                    self.assertTrue(all(is_number(web[0], pair) for pair in flat(whole)))
                    self.assertTrue(agreeing(web, whole))
                    self.assertIs(agrees(web, whole), True)
                    told = [flat(whole)[at] for at in free_places]
                    self.assertEqual(told, [ONE if at == place else NOUGHT for at in free_places])

    def test_no_ties(self):
        for field in SOME_FIELDS:
            self.assertEqual([flat(whole) for whole in sections((field, (2, 0, 3, 1), ()))], list(unit(6)))

    def test_webs_that_are_none(self):
        hold_web_refusals(self, sections)


class Free(Case):
    def test_counts(self):
        for web in many_webs(93):
            told = free(web)
            self.assertIs(told.__class__, int)
            self.assertEqual(told, sum(web[1]) - plain_rank(web[0], great_rows(web)))
            self.assertEqual(told, len(sections(web)))
        self.assertEqual(free((0, (3,) * 8, ())), 24)
        self.assertEqual(free(EVEN), 1)

    def test_fields_tell_apart(self):
        ties = ((0, 0, 1, (((1, 1),),), (((4, 1),),)),)
        self.assertEqual([free((field, (1,), ties)) for field in (0, 5, 7)], [0, 0, 0])
        ties = ((0, 0, 1, (((1, 1),),), (((2, 1),),)), (0, 0, 1, (((4, 1),),), (((1, 1),),)))
        self.assertEqual(free((5, (1,), ties)), 0)
        ties = ((0, 1, 1, (((1, 1),),), (((1, 1),),)), (0, 1, 1, (((1, 1),),), (((4, 1),),)))
        self.assertEqual([free((field, (1, 1), ties)) for field in (0, 5, 7)], [0, 0, 0])
        ties = ((0, 1, 1, (((1, 1),),), (((2, 1),),)), (0, 1, 1, (((3, 1),),), (((1, 1),),)))
        self.assertEqual([free((field, (1, 1), ties)) for field in (0, 5, 7)], [0, 1, 0])

    def test_webs_that_are_none(self):
        hold_web_refusals(self, free)


class SumOf(Case):
    def test_told_sections(self):
        self.assertEqual(sum_of(EVEN, [(3, 1)]), [row(5, 2), row(5, 3)])
        self.assertEqual(sum_of((0, (2, 0), ()), [(1, 2), (-3, 1)]), [row(0, (1, 2), -3), ()])
        self.assertEqual(sum_of((0, (0,), ()), []), [()])
        self.assertEqual(sum_of((3, (1,), ((0, 0, 1, unit(1), table(3, (2,))),)), []), [noughts(1)])

    def test_sums_of_the_base(self):
        chance = new_chance(94)
        for web in many_webs(94):
            base = sections(web)
            factors = [chance_number(chance, web[0]) for _ in base]
            told = sum_of(web, factors)
            self.is_list_of_columns(told, web[1])
            self.assertEqual(told, summed(web[0], factors, base, web[1]))
            self.assertTrue(agreeing(web, told))
            self.assertEqual(sum_of(web, [NOUGHT] * len(base)), [noughts(room) for room in web[1]])
            for at, whole in enumerate(base):
                self.assertEqual(sum_of(web, [ONE if at == other else NOUGHT for other in range(len(base))]), whole)

    def test_too_many_too_few_and_bad_factors(self):
        for web in many_webs(95):
            many = free(web)
            self.refuses(BadWhole, sum_of, web, [ONE] * (many + 1))
            self.refuses(BadWhole, sum_of, web, [(0, 2)] * (many + 1))
            if many:
                self.refuses(BadWhole, sum_of, web, [ONE] * (many - 1))
                self.refuses(BadWhole, sum_of, web, [])
                for bad in bad_numbers(web[0]):
                    self.refuses(BadWhole, sum_of, web, [bad] + [ONE] * (many - 1))
                    self.refuses(BadWhole, sum_of, web, [NOUGHT] * (many - 1) + [bad])

    def test_webs_that_are_none(self):
        hold_web_refusals(self, sum_of, [])
        hold_web_refusals(self, sum_of, [(0, 2)] * 30)


class FactorsOf(Case):
    def test_told_factors(self):
        self.assertEqual(factors_of(EVEN, [row(5, 2), row(5, 3)]), [(3, 1)])
        self.assertEqual(factors_of((0, (2, 0), ()), [row(0, (1, 2), -3), ()]), [(1, 2), (-3, 1)])
        self.assertEqual(factors_of((0, (0,), ()), [()]), [])
        self.assertEqual(factors_of((0, (2,), ((0, 0, 2, unit(2), ((NOUGHT,) * 2,) * 2),)), [noughts(2)]), [])

    def test_there_and_back(self):
        chance = new_chance(96)
        for web in many_webs(96):
            factors = [chance_number(chance, web[0], 3) for _ in range(free(web))]
            told = factors_of(web, sum_of(web, factors))
            self.assertIs(told.__class__, list)
            self.assertEqual(told, factors)

    def test_no_section(self):
        chance = new_chance(97)
        for web in many_webs(97):
            for _ in range(3):
                whole = chance_whole(chance, web)
                if agreeing(web, whole):
                    self.assertEqual(sum_of(web, factors_of(web, whole)), whole)
                else:
                    self.refuses(NoSection, factors_of, web, whole)
        self.refuses(NoSection, factors_of, EVEN, [row(5, 2), row(5, 2)])

    def test_no_assignment_goes_ahead(self):
        for field in SOME_FIELDS:
            web = (field, (1, 1), ((0, 1, 1, unit(1), unit(1)),))
            for bad in bad_numbers(field):
                self.refuses(BadWhole, factors_of, web, [(ONE,), (bad,)])
                self.refuses(BadWhole, factors_of, web, [(bad,), (bad,)])
            for whole in ([], [(ONE,)], [(ONE,), ()], [(ONE,), (ONE, ONE)], [(ONE,), (NOUGHT,), ()], [(ONE, ONE)]):
                self.refuses(BadWhole, factors_of, web, whole)

    def test_webs_that_are_none(self):
        hold_web_refusals(self, factors_of, [(ONE,), (ONE, ONE)])
        hold_web_refusals(self, factors_of, [])


class Count(Case):
    def test_told_counts(self):
        self.assertEqual(count(EVEN), 5)
        self.assertEqual(count((2, (3,) * 8, ())), 2 ** 24)
        self.assertEqual(count((97, (3,) * 8, ())), 97 ** 24)
        self.assertEqual(count((97, (0,), ())), 1)
        self.assertEqual(count((3, (1,), ((0, 0, 1, unit(1), table(3, (2,))),))), 1)

    def test_each_assignment_of_small_webs(self):
        for web in small_webs(98):
            agreeing_ones = [whole for whole in every_columns(web[0], web[1]) if agreeing(web, whole)]
            told = count(web)
            self.assertIs(told.__class__, int)
            self.assertEqual(told, len(agreeing_ones))
            self.assertEqual(told, web[0] ** free(web))

    def test_no_end_over_fractions(self):
        self.refuses(NoEnd, count, (0, (1,), ()))
        self.refuses(NoEnd, count, (0, (0,), ()))
        self.refuses(NoEnd, count, (0, (1,), ((0, 0, 1, unit(1), table(0, (2,))),)))

    def test_webs_that_are_none(self):
        hold_web_refusals(self, count)


class Numbered(Case):
    def test_told_sections(self):
        self.assertEqual([numbered(EVEN, at) for at in range(5)], [[row(5, 4 * at), row(5, at)] for at in range(5)])
        # The base's first section has the lowest figure.
        web = (3, (2, 1), ())
        self.assertEqual(numbered(web, 1), [row(3, 1, 0), row(3, 0)])
        self.assertEqual(numbered(web, 3), [row(3, 0, 1), row(3, 0)])
        self.assertEqual(numbered(web, 9), [row(3, 0, 0), row(3, 1)])
        self.assertEqual(numbered(web, 2 + 3 * 1 + 9 * 2), [row(3, 2, 1), row(3, 2)])
        self.assertEqual(number_of(web, [row(3, 2, 1), row(3, 2)]), 23)

    def test_each_section_of_small_webs_has_just_one_number(self):
        for web in small_webs(99):
            seen = []
            for whole in every_columns(web[0], web[1]):
                if agreeing(web, whole):
                    at = number_of(web, whole)
                    self.assertIs(at.__class__, int)
                    seen.append(at)
                    self.assertEqual(numbered(web, at), whole)
                else:
                    self.refuses(NoSection, number_of, web, whole)
            self.assertEqual(sorted(seen), list(range(count(web))))

    def test_tops_of_the_factors(self):
        chance = new_chance(100)
        for web in many_webs(100):
            if web[0]:
                factors = [chance_number(chance, web[0]) for _ in range(free(web))]
                at = sum(factor[0] * web[0] ** place for place, factor in enumerate(factors))
                self.assertEqual(numbered(web, at), sum_of(web, factors))
                self.assertEqual(number_of(web, sum_of(web, factors)), at)
                self.is_list_of_columns(numbered(web, at), web[1])

    def test_the_ends_and_beyond(self):
        for web in list(small_webs(101)) + [(97, (3,) * 8, ()), EVEN, (7, (0,), ()), wide_even_web(89)]:
            last = count(web) - 1
            self.assertEqual(numbered(web, 0), [noughts(room) for room in web[1]])
            self.assertEqual(numbered(web, last), sum_of(web, [(web[0] - 1, 1)] * free(web)))
            self.assertEqual(number_of(web, numbered(web, last)), last)
            self.assertEqual(number_of(web, numbered(web, 0)), 0)
            for beyond in (-1, -last - 1, last + 1, last + 2, 10 ** 5000, -(10 ** 5000)):
                self.refuses(NoSection, numbered, web, beyond)

    def test_no_end_whatever_else_is_handed_in(self):
        for web in ((0, (1,), ()), (0, (0,), ()), (0, (1, 1), ((0, 1, 1, unit(1), unit(1)),))):
            for at in (0, -1, 5, 10 ** 5000):
                self.refuses(NoEnd, numbered, web, at)
            for whole in ([], [(ONE,)], [()], [(ONE,), (NOUGHT,)], [((0, 2),), (ONE,)], [(ONE,) * 3] * 9):
                self.refuses(NoEnd, number_of, web, whole)

    def test_no_assignment_ahead_of_no_section(self):
        for whole in ([], [(ONE,)], [(ONE,), ((5, 1),)], [(ONE,), (ONE, ONE)], [(ONE,), (ONE,), ()]):
            self.refuses(BadWhole, number_of, EVEN, whole)
        self.refuses(NoSection, number_of, EVEN, [(ONE,), (ONE,)])

    def test_webs_that_are_none(self):
        for behind in (0, -1, 10 ** 30):
            hold_web_refusals(self, numbered, behind)
        for behind in ([], [(ONE,), (ONE, ONE)]):
            hold_web_refusals(self, number_of, behind)
        self.refuses(BadWeb, numbered, (0, (9,), ()), 0)
        self.refuses(BadWeb, number_of, (0, (9,), ()), [])
        self.refuses(BadWeb, count, (0, (9,), ()))


class Widest(Case):
    def test_eight_places_and_twelve_ties_of_room_three(self):
        chance = new_chance(102)
        start = time.perf_counter()
        for field in SOME_FIELDS:
            for web in (widest_web(chance, field), wide_even_web(field)):
                base = sections(web)
                self.assertEqual(len(base), free(web))
                factors = [chance_number(chance, field, 3) for _ in base]
                whole = sum_of(web, factors)
                self.assertTrue(agreeing(web, whole))
                self.assertEqual(factors_of(web, whole), factors)
                self.refuses(NoSection, factors_of, web, [(ONE, (1 if field == 2 else 2, 1), NOUGHT)] + whole[1:])
                if field:
                    self.assertEqual(numbered(web, number_of(web, whole)), whole)
        self.assertGreaterEqual(free(wide_even_web(0)), 3)
        # Far more than it takes; it is the growth of numbers that would need longer.
        self.assertLess(time.perf_counter() - start, 20)


class HandedInAndTold(Case):
    def test_what_was_handed_in_stays_as_it_was(self):
        whole, factors = [row(5, 2), row(5, 3)], [(3, 1)]
        for call in (factors_of, number_of):
            call(EVEN, whole)
            self.assertEqual(whole, [row(5, 2), row(5, 3)])
        sum_of(EVEN, factors)
        self.assertEqual(factors, [(3, 1)])

    def test_changing_a_told_list_changes_no_later_answer(self):
        whole, factors = [row(5, 2), row(5, 3)], [(3, 1)]
        self.answers_stay(
            lambda: sections(EVEN), lambda: sections(EVEN)[0], lambda: sum_of(EVEN, factors),
            lambda: factors_of(EVEN, whole), lambda: numbered(EVEN, 3),
        )
        self.assertEqual((whole, factors), ([row(5, 2), row(5, 3)], [(3, 1)]))

    def test_by_name(self):
        whole = [row(5, 2), row(5, 3)]
        self.assertEqual(sections(web=EVEN), sections(EVEN))
        self.assertEqual(free(web=EVEN), 1)
        self.assertEqual(sum_of(web=EVEN, factors=[(3, 1)]), whole)
        self.assertEqual(factors_of(web=EVEN, whole=whole), [(3, 1)])
        self.assertEqual(count(web=EVEN), 5)
        self.assertEqual(numbered(web=EVEN, number=3), whole)
        self.assertEqual(number_of(web=EVEN, whole=whole), 3)


if __name__ == "__main__":
    unittest.main()
