import unittest

from helpers import (
    BAD_FIELDS, ONE, PRIMES, SOME_FIELDS, Case, agreeing, bad_webs, bad_wholes, chance_whole, every_columns,
    flat, hold_web_refusals, led, many_webs, new_chance, noughts, number, rooms_of_ties, row, small_webs, table,
    told_differences, unit, wide_even_web, widest_web,
)
from stalkweb.errors import BadField, BadWhole
from stalkweb.webs import agrees, differences, great_rows, is_web, width_of

WEB = (0, (1, 2), ((0, 1, 1, table(0, (2,)), table(0, (1, (-1, 3)))), (1, 1, 2, unit(2), table(0, (0, 1), (1, 0)))))


class IsWeb(Case):
    def test_webs(self):
        for seed in (81, 82):
            for web in many_webs(seed):
                self.assertIs(is_web(web), True)
        chance = new_chance(81)
        for field in SOME_FIELDS:
            self.assertIs(is_web(widest_web(chance, field)), True)
            self.assertIs(is_web(wide_even_web(field)), True)

    def test_each_bound_bent_alone(self):
        for field in SOME_FIELDS:
            for web in bad_webs(field):
                self.assertIs(is_web(web), False)

    def test_counts_of_places_and_ties(self):
        tie = (0, 0, 1, table(0, (1,)), table(0, (2,)))
        for places in range(12):
            self.assertIs(is_web((0, (1,) * places, ())), 1 <= places <= 8)
        for ties in range(16):
            self.assertIs(is_web((0, (1,), (tie,) * ties)), ties <= 12)

    def test_rooms(self):
        for room in (-3, -1, 0, 1, 2, 3, 4, 5, 40):
            self.assertIs(is_web((0, (room,), ())), 0 <= room <= 3)
            self.assertIs(is_web((0, (3, room, 0), ())), 0 <= room <= 3)
            lines = ((ONE,),) * max(room, 0)
            self.assertIs(is_web((0, (1, 1), ((0, 1, room, lines, lines),))), 0 <= room <= 3)

    def test_a_ties_places(self):
        for one in range(-3, 5):
            for other in range(-3, 5):
                good = 0 <= one < 2 and 0 <= other < 2
                self.assertIs(is_web((0, (1, 1), ((one, other, 1, ((ONE,),), ((ONE,),)),))), good)
                # A room of 0 asks for nothing, and yet the places must be there.
                self.assertIs(is_web((0, (1, 1), ((one, other, 0, (), ()),))), good)

    def test_tops_and_bottoms_over_fractions(self):
        for pair, good in (
            ((99, 1), True), ((-99, 1), True), ((100, 1), False), ((-100, 1), False), ((1, 99), True), ((-1, 99), True),
            ((1, 100), False), ((98, 99), True), ((-98, 99), True), ((99, 98), True), ((101, 99), False),
            ((99, 99), False),
            ((0, 1), True), ((0, 2), False), ((2, 4), False), ((1, 0), False), ((1, -1), False), ((1, -2), False),
            ((10 ** 4000, 1), False), ((1, 10 ** 4000), False), ((1, 101), False), ((-100, 99), False),
        ):
            for tie in ((0, 1, 1, ((pair,),), ((ONE,),)), (0, 1, 1, ((ONE,),), ((pair,),))):
                self.assertIs(is_web((0, (1, 1), (tie,))), good, pair)
        # In each of the tables, in each row, at each place.
        for at in range(9):
            for pair, good in (((99, 1), True), ((100, 1), False), ((2, 2), False)):
                flat_table = [ONE] * at + [pair] + [ONE] * (8 - at)
                lines = tuple(tuple(flat_table[3 * line:3 * line + 3]) for line in range(3))
                self.assertIs(is_web((0, (3,), ((0, 0, 3, lines, unit(3)),))), good)
                self.assertIs(is_web((0, (3,), ((0, 0, 3, unit(3), unit(3)), (0, 0, 3, unit(3), lines)))), good)

    def test_tops_by_a_prime(self):
        for prime in PRIMES:
            for top in (-99, -1, 0, 1, prime - 1, prime, prime + 1, 99, 100):
                good = 0 <= top < prime
                self.assertIs(is_web((prime, (1,), ((0, 0, 1, (((top, 1),),), ((ONE,),)),))), good)
            self.assertIs(is_web((prime, (1,), ((0, 0, 1, ((ONE,),), (((1, 2),),)),))), False)

    def test_bad_fields(self):
        for field in BAD_FIELDS:
            self.refuses(BadField, is_web, (field, (1,), ()))
            self.refuses(BadField, is_web, (field, (), ()))
            self.refuses(BadField, is_web, (field, (9,), ((7, 7, 7, (), ()),)))

    def test_it_tells_the_same_web_apart_by_its_field(self):
        ties = ((0, 0, 1, (((4, 1),),), (((1, 2),),)),)
        self.assertIs(is_web((0, (1,), ties)), True)
        self.assertIs(is_web((5, (1,), ties)), False)


class GreatRows(Case):
    def test_told_rows(self):
        self.assertEqual(great_rows(WEB), [row(0, -2, 1, (-1, 3)), row(0, 0, -1, 1), row(0, 0, 1, -1)])
        self.assertEqual(great_rows((0, (2,), ())), [])
        self.assertEqual(great_rows((0, (0,), ((0, 0, 2, ((), ()), ((), ())),))), [(), ()])
        self.assertEqual(great_rows((0, (2,), ((0, 0, 0, (), ()),))), [])
        self.assertEqual(great_rows((3, (1, 1), ((1, 0, 1, table(3, (2,)), table(3, (2,))),))), [row(3, 2, 1)])

    def test_a_loop_has_the_second_table_less_the_first(self):
        web = (7, (1, 1), ((1, 1, 1, table(7, (3,)), table(7, (1,))),))
        self.assertEqual(great_rows(web), [row(7, 0, 5)])

    def test_they_lead_an_assignment_to_its_differences(self):
        chance = new_chance(83)
        for seed in (83, 84):
            for web in many_webs(seed):
                told = great_rows(web)
                self.assertIs(told.__class__, list)
                self.assertEqual(len(told), sum(rooms_of_ties(web)))
                self.assertTrue(all(line.__class__ is tuple and len(line) == sum(web[1]) for line in told))
                whole = chance_whole(chance, web)
                self.assertEqual(led(web[0], told, flat(whole)), flat(differences(web, whole)))

    def test_webs_that_are_none(self):
        hold_web_refusals(self, great_rows)


class WidthOf(Case):
    def test_widths(self):
        for web in many_webs(85):
            self.assertEqual(width_of(web), sum(web[1]))
            self.assertIs(width_of(web).__class__, int)
        self.assertEqual(width_of(widest_web(new_chance(1), 0)), 24)
        self.assertEqual(width_of((2, (0, 0), ())), 0)

    def test_webs_that_are_none(self):
        hold_web_refusals(self, width_of)


class Differences(Case):
    def test_told_differences(self):
        self.assertEqual(differences(WEB, [row(0, 1), row(0, 2, 3)]), [row(0, -1), row(0, 1, -1)])
        self.assertEqual(differences(WEB, [row(0, (1, 2)), row(0, 1, 1)]), [row(0, (-1, 3)), row(0, 0, 0)])
        self.assertEqual(differences((0, (2,), ()), [row(0, 1, 2)]), [])
        self.assertEqual(differences((0, (2,), ((0, 0, 0, (), ()),)), [row(0, 1, 2)]), [()])
        self.assertEqual(differences((2, (0, 0), ((0, 1, 1, ((),), ((),)),)), [(), ()]), [noughts(1)])

    def test_all_sorts_of_webs(self):
        chance = new_chance(86)
        for web in many_webs(86):
            for whole in (chance_whole(chance, web), [noughts(room) for room in web[1]]):
                told = differences(web, whole)
                self.is_list_of_columns(told, rooms_of_ties(web))
                self.assertEqual(told, told_differences(web, whole))

    def test_numbers_of_an_assignment_have_no_bounds(self):
        far = number(0, 10 ** 300, 7 ** 200)
        web = (0, (1, 1), ((0, 1, 1, unit(1), unit(1)),))
        self.assertEqual(differences(web, [(far,), (far,)]), [noughts(1)])
        self.assertEqual(differences(web, [noughts(1), (far,)]), [(far,)])

    def test_refusals(self):
        for field in SOME_FIELDS:
            tie = (0, 1, 1, table(field, (1,)), table(field, (1, 1)))
            for web in ((field, (2, 0, 1), ()), (field, (1, 2), (tie,))):
                for whole in bad_wholes(web):
                    self.refuses(BadWhole, differences, web, whole)
                    self.refuses(BadWhole, agrees, web, whole)

    def test_webs_that_are_none(self):
        for call in (differences, agrees):
            hold_web_refusals(self, call, [row(0, 1), row(0, 1, 1)])
            hold_web_refusals(self, call, [])


class Agrees(Case):
    def test_told_truths(self):
        web = (0, (1, 1), ((0, 1, 1, table(0, (2,)), table(0, (3,))),))
        self.assertIs(agrees(web, [row(0, 3), row(0, 2)]), True)
        self.assertIs(agrees(web, [row(0, 3), row(0, 3)]), False)
        self.assertIs(agrees((0, (1, 1), ()), [row(0, 3), row(0, 2)]), True)

    def test_each_tie_counts(self):
        good, bad = (0, 0, 1, unit(1), unit(1)), (0, 0, 1, unit(1), table(5, (2,)))
        for ties in ((bad, good, good), (good, bad, good), (good, good, bad)):
            self.assertIs(agrees((5, (1,), ties), [row(5, 1)]), False)
            self.assertIs(agrees((5, (1,), ties), [row(5, 0)]), True)
        # Each place of a tie counts, too.
        for at in range(3):
            lines = [list(line) for line in unit(3)]
            lines[at][at] = (2, 1)
            web = (5, (3,), ((0, 0, 3, unit(3), tuple(tuple(line) for line in lines)),))
            for place in range(3):
                self.assertIs(agrees(web, [unit(3)[place]]), place != at)

    def test_each_assignment_of_small_webs(self):
        for web in small_webs(87):
            for whole in every_columns(web[0], web[1]):
                self.assertIs(agrees(web, whole), agreeing(web, whole))


class HandedInAndTold(Case):
    def test_what_was_handed_in_stays_as_it_was(self):
        whole = [row(0, 1), row(0, 2, 3)]
        kept = list(whole)
        differences(WEB, whole)
        agrees(WEB, whole)
        self.assertEqual(whole, kept)
        self.refuses(BadWhole, agrees, WEB, [])
        bad = [row(0, 1), ((2, 2), ONE)]
        self.refuses(BadWhole, differences, WEB, bad)
        self.assertEqual(bad, [row(0, 1), ((2, 2), ONE)])

    def test_changing_a_told_list_changes_no_later_answer(self):
        whole = [row(0, 1), row(0, 2, 3)]
        self.answers_stay(lambda: great_rows(WEB), lambda: differences(WEB, whole))

    def test_by_name(self):
        whole = [row(0, 1), row(0, 2, 3)]
        self.assertIs(is_web(web=WEB), True)
        self.assertEqual(great_rows(web=WEB), great_rows(WEB))
        self.assertEqual(width_of(web=WEB), 3)
        self.assertEqual(differences(web=WEB, whole=whole), differences(WEB, whole))
        self.assertIs(agrees(web=WEB, whole=whole), False)


if __name__ == "__main__":
    unittest.main()
