import unittest
from itertools import combinations

from helpers import (
    NOUGHT, ONE, SOME_FIELDS, Case, agreeing, bad_numbers, chance_number, chance_rows, combined, dot, every_columns,
    flat, hold_web_refusals, many_webs, minus, new_chance, noughts, plain_rank, rooms_of_ties, row, small_webs,
    summed, table, unit, wide_even_web, widest_web,
)
from stalkweb.errors import BadSaying
from stalkweb.sayings import against, goes_on
from stalkweb.webs import agrees, great_rows
from stalkweb.whole import sections

# Along the ties the second place has twice the first one's column, the third one twice the second one's.
DOUBLES = (0, (1, 1, 1), ((0, 1, 1, table(0, (2,)), unit(1)), (1, 2, 1, table(0, (2,)), unit(1))))


def some_places(places):
    """All rising lists of some of so many places."""
    return [list(some) for count in range(places + 1) for some in combinations(range(places), count)]


def starts(sizes):
    return [sum(sizes[:place]) for place in range(len(sizes) + 1)]


def said_at(web, sayings):
    """Where, of all numbers one behind the other, something was said, and what."""
    begin = starts(web[1])
    return {begin[place] + at: pair for place, column in sayings for at, pair in enumerate(column)}


def unsaid_solution(web, sayings):
    """The numbers at all other places as the document tells them: nought where the rows there have no lead."""
    field, lines, said = web[0], great_rows(web), said_at(web, sayings)
    unsaid = [at for at in range(sum(web[1])) if at not in said]
    left = [tuple(line[at] for at in unsaid) for line in lines]
    ranks = [plain_rank(field, [line[:at] for line in left]) for at in range(len(unsaid) + 1)]
    return [at for k, at in enumerate(unsaid) if ranks[k + 1] == ranks[k]]


class Sayings(Case):
    def hold(self, web, sayings):
        """Just one of a section and weights is told, and it is what it ought to be."""
        field, lines, said = web[0], great_rows(web), said_at(web, sayings)
        whole, weights = goes_on(web, sayings), against(web, sayings)
        self.assertEqual([whole, weights].count(None), 1)
        if whole is not None:
            self.is_list_of_columns(whole, web[1])
            self.assertTrue(agreeing(web, whole))
            self.assertIs(agrees(web, whole), True)
            self.assertEqual([whole[place] for place, column in sayings], [column for place, column in sayings])
            for at in unsaid_solution(web, sayings):
                self.assertEqual(flat(whole)[at], NOUGHT)
        else:
            self.is_list_of_columns(weights, rooms_of_ties(web))
            sums = combined(field, flat(weights), lines, sum(web[1]))
            self.assertTrue(all(pair == NOUGHT for at, pair in enumerate(sums) if at not in said))
            places = sorted(said)
            self.assertEqual(dot(field, [sums[at] for at in places], [said[at] for at in places]), ONE)
        return whole

    def test_told_answers(self):
        self.assertEqual(goes_on(DOUBLES, []), [row(0, 0)] * 3)
        self.assertEqual(goes_on(DOUBLES, [(0, row(0, 3))]), [row(0, 3), row(0, 6), row(0, 12)])
        self.assertEqual(goes_on(DOUBLES, [(2, row(0, 3))]), [row(0, (3, 4)), row(0, (3, 2)), row(0, 3)])
        self.assertEqual(goes_on(DOUBLES, [(0, row(0, 3)), (2, row(0, 12))]), [row(0, 3), row(0, 6), row(0, 12)])
        self.assertIsNone(goes_on(DOUBLES, [(0, row(0, 3)), (2, row(0, 11))]))
        self.assertIsNone(against(DOUBLES, []))
        self.assertIsNone(against(DOUBLES, [(0, row(0, 3)), (2, row(0, 12))]))
        # The great rows are -2 1 0 and 0 -2 1: with these weights they make 4 0 -1, and 12 less 11 is 1.
        self.assertEqual(against(DOUBLES, [(0, row(0, 3)), (2, row(0, 11))]), [row(0, -2), row(0, -1)])

    def test_nought_where_the_rows_without_the_said_places_have_no_lead(self):
        web = (5, (1, 1, 1), ((0, 1, 1, unit(1), unit(1)),))
        self.assertEqual(goes_on(web, []), [noughts(1)] * 3)
        self.assertEqual(goes_on(web, [(1, row(5, 2))]), [row(5, 2), row(5, 2), row(5, 0)])
        # The middle place's numbers sum to nought.
        web = (0, (1, 2, 1), ((0, 0, 0, (), ()), (1, 1, 1, table(0, (0, 0)), table(0, (1, 1)))))
        self.assertEqual(goes_on(web, [(0, row(0, 4))]), [row(0, 4), row(0, 0, 0), row(0, 0)])
        self.assertEqual(goes_on(web, [(1, row(0, 4, -4))]), [row(0, 0), row(0, 4, -4), row(0, 0)])
        web = (0, (1, 2), ((0, 1, 1, table(0, (1,)), table(0, (1, 1))),))
        self.assertEqual(goes_on(web, [(0, row(0, 4))]), [row(0, 4), row(0, 4, 0)])
        self.assertEqual(goes_on(web, [(1, row(0, 4, 1))]), [row(0, 5), row(0, 4, 1)])

    def test_columns_of_a_section_go_on_and_go_on_with_less_said(self):
        chance = new_chance(121)
        for web in many_webs(121):
            base = sections(web)
            whole = summed(web[0], [chance_number(chance, web[0]) for _ in base], base, web[1])
            for some in some_places(len(web[1])):
                sayings = [(place, whole[place]) for place in some]
                self.assertIsNotNone(self.hold(web, sayings))
            self.assertEqual(goes_on(web, list(enumerate(whole))), whole)

    def test_bent_columns_and_chance_ones(self):
        chance = new_chance(122)
        on = off = 0
        for web in many_webs(122):
            base = sections(web)
            whole = summed(web[0], [chance_number(chance, web[0]) for _ in base], base, web[1])
            for some in some_places(len(web[1])):
                for bent in some:
                    if web[1][bent]:
                        sayings = [(place, whole[place]) for place in some]
                        column = minus(web[0], whole[bent], (ONE,) + noughts(web[1][bent] - 1))
                        sayings[some.index(bent)] = (bent, column)
                        found = self.hold(web, sayings)
                        on, off = on + (found is not None), off + (found is None)
                sayings = [(place, chance_rows(chance, web[0], 1, web[1][place])[0]) for place in some]
                if self.hold(web, sayings) is not None:
                    for saying in sayings:
                        self.assertIsNotNone(goes_on(web, [other for other in sayings if other != saying]))
        self.assertGreater(min(on, off), 50)

    def test_all_said_goes_on_just_where_it_agrees(self):
        for web in small_webs(123):
            for whole in every_columns(web[0], web[1]):
                told = self.hold(web, list(enumerate(whole)))
                self.assertEqual(told, whole if agreeing(web, whole) else None)

    def test_each_saying_of_small_webs(self):
        for web in small_webs(124):
            agreeing_ones = [whole for whole in every_columns(web[0], web[1]) if agreeing(web, whole)]
            for some in some_places(len(web[1])):
                rooms = [web[1][place] for place in some]
                seen = [[whole[place] for place in some] for whole in agreeing_ones]
                for columns in every_columns(web[0], rooms):
                    told = self.hold(web, list(zip(some, columns)))
                    self.assertEqual(told is not None, columns in seen)

    def test_eight_places_and_twelve_ties_of_room_three(self):
        chance = new_chance(125)
        for field in (0, 97):
            for web in (widest_web(chance, field), wide_even_web(field)):
                self.hold(web, [])
                self.hold(web, [(place, noughts(3)) for place in range(8)])
                for some in ([0], [2, 5, 7], [0, 1, 2, 3, 4, 5, 6, 7]):
                    self.hold(web, [(place, chance_rows(chance, field, 1, 3, 2)[0]) for place in some])
                    self.hold(web, [(place, (ONE, (2 % field if field else 2, 1), ONE)) for place in some])

    def test_numbers_of_sayings_have_no_bounds(self):
        far = (10 ** 300, 7 ** 200)
        self.assertEqual(goes_on(DOUBLES, [(1, (far,))])[1], (far,))
        self.assertIsNotNone(against(DOUBLES, [(0, (far,)), (1, (far,))]))


class Refusals(Case):
    def both_refuse(self, web, sayings):
        for call in (goes_on, against):
            self.refuses(BadSaying, call, web, sayings)

    def test_places_that_are_none(self):
        for place in (-1, -3, 3, 4, 10 ** 20, -(10 ** 20)):
            self.both_refuse(DOUBLES, [(place, (ONE,))])
            self.both_refuse(DOUBLES, [(0, (ONE,)), (place, (ONE,))])
            self.both_refuse(DOUBLES, [(place, (ONE,)), (2, (ONE,))])

    def test_not_rising_or_said_twice(self):
        good = (ONE,)
        for some in ([1, 0], [0, 0], [2, 1], [0, 2, 1], [0, 1, 1], [1, 2, 0], [2, 2], [0, 1, 2, 2], [0, 1, 2, 0]):
            self.both_refuse(DOUBLES, [(place, good) for place in some])

    def test_columns_of_another_length(self):
        web = (7, (0, 1, 2), ())
        for sayings in (
            [(0, (ONE,))], [(1, ())], [(1, (ONE, ONE))], [(2, (ONE,))], [(2, (ONE, ONE, ONE))], [(0, ()), (1, ())],
            [(0, ()), (1, (ONE,)), (2, (ONE,))], [(0, (ONE, ONE)), (2, (ONE, ONE))],
        ):
            self.both_refuse(web, sayings)
        self.assertIsNotNone(goes_on(web, [(0, ()), (1, (ONE,)), (2, (ONE, ONE))]))

    def test_what_is_no_number(self):
        for field in SOME_FIELDS:
            web = (field, (1, 2), ((0, 1, 1, unit(1), table(field, (1, 0))),))
            for bad in bad_numbers(field):
                self.both_refuse(web, [(0, (bad,))])
                self.both_refuse(web, [(1, (ONE, bad))])
                self.both_refuse(web, [(0, (ONE,)), (1, (bad, NOUGHT))])

    def test_webs_that_are_none(self):
        for call in (goes_on, against):
            hold_web_refusals(self, call, [])
            hold_web_refusals(self, call, [(0, (ONE,))])
            hold_web_refusals(self, call, [(9, (ONE, ONE)), (-1, ((2, 2),))])


class HandedInAndTold(Case):
    def test_what_was_handed_in_stays_as_it_was(self):
        for sayings in ([(0, row(0, 3)), (2, row(0, 12))], [(0, row(0, 3)), (2, row(0, 11))], []):
            kept = list(sayings)
            goes_on(DOUBLES, sayings)
            against(DOUBLES, sayings)
            self.assertEqual(sayings, kept)
        bad = [(1, row(0, 3)), (0, row(0, 3))]
        self.refuses(BadSaying, goes_on, DOUBLES, bad)
        self.assertEqual(bad, [(1, row(0, 3)), (0, row(0, 3))])

    def test_changing_a_told_list_changes_no_later_answer(self):
        on, off = [(0, row(0, 3))], [(0, row(0, 3)), (2, row(0, 11))]
        self.answers_stay(lambda: goes_on(DOUBLES, on), lambda: against(DOUBLES, off))

    def test_by_name(self):
        sayings = [(0, row(0, 3))]
        self.assertEqual(goes_on(web=DOUBLES, sayings=sayings), goes_on(DOUBLES, sayings))
        self.assertIsNone(against(web=DOUBLES, sayings=sayings))


if __name__ == "__main__":
    unittest.main()
