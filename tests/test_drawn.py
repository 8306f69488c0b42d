import time
import unittest

from helpers import (
    NOUGHT, ONE, PRIMES, SOME_FIELDS, Case, agreeing, bad_wholes, chance_section, chance_stiff_table,
    chance_stiff_web, chance_table, chance_whole, every_columns, hold_web_refusals, led, many_webs, new_chance, noughts,
    number, plain_rank, row, small_webs, table, told_differences, unit, wide_even_web, widest_web,
)
from stalkweb.drawn import between, drawn, drawn_back
from stalkweb.errors import BadWhole, Full, NoSection, NoTie, NoWay
from stalkweb.gaps import gap
from stalkweb.goings import gone
from stalkweb.webs import agrees, is_web
from stalkweb.whole import count, free, sections

# The first tie can be drawn together; ties stand at its other place with either end, with both, and not at all.
WEB = (5, (2, 1, 2), (
    (1, 2, 1, table(5, (3,)), table(5, (1, 2))), (0, 2, 2, table(5, (1, 2), (0, 1)), table(5, (0, 1), (1, 0))),
    (2, 2, 1, table(5, (1, 0)), table(5, (4, 1))), (2, 0, 2, table(5, (1, 1), (2, 3)), unit(2)),
    (1, 1, 1, unit(1), table(5, (2,))), (0, 1, 1, table(5, (1, 4)), unit(1)),
))
# Along the one tie the second place has twice the first one's number.
DOUBLE = (0, (1, 1), ((0, 1, 1, table(0, (2,)), unit(1)),))


def can_be_drawn(web, tie):
    one, other, room, first, second = web[2][tie]
    return one != other and len(second) == web[1][other] == plain_rank(web[0], second)


def without(columns, place):
    return columns[:place] + columns[place + 1:]


def drawable_webs(seed):
    """Webs of all sorts with ties, small ones by primes and such whose numbers stay small over fractions."""
    chance = new_chance(seed)
    found = [web for web in many_webs(seed) if web[2]] + [WEB, DOUBLE]
    for field in SOME_FIELDS:
        for places, ties, room in ((2, 3, 1), (3, 4, 2), (4, 6, 1), (3, 3, 0)):
            found.append(chance_stiff_web(chance, field, places, ties, room))
        ties = []
        for at in range(5):
            one, other = chance.sample(range(4), 2)
            ties.append((one, other, 2, chance_table(chance, field, 2, 2), unit(2)))
        found.append((field, (2,) * 4, tuple(ties)))
    return found


def full_when_drawn(web, tie):
    """A web that one drawn together is not, for its numbers are too great."""
    try:
        drawn(web, tie)
    except Full:
        return True
    return False


class Drawn(Case):
    def test_told_webs(self):
        self.assertEqual(drawn(DOUBLE, 0), (0, (1,), ()))
        even = (0, 0, 1, table(0, (2,)), table(0, (2,)))
        self.assertEqual(drawn((0, (1, 1), DOUBLE[2] * 3), 1), (0, (1,), (even, even)))
        self.assertEqual(drawn(WEB, 1), (5, (2, 1), (
            (1, 0, 1, table(5, (3,)), table(5, (2, 0))), (0, 0, 1, table(5, (0, 1)), table(5, (1, 1))),
            (0, 0, 2, table(5, (1, 3), (3, 3)), unit(2)), (1, 1, 1, unit(1), table(5, (2,))),
            (0, 1, 1, table(5, (1, 4)), unit(1)),
        )))
        # Behind the place that goes the others are numbered anew, also the one that stays.
        web = (0, (1, 1, 1), ((2, 1, 1, table(0, (3,)), table(0, (2,))), (1, 0, 1, table(0, (4,)), unit(1))))
        self.assertEqual(drawn(web, 0), (0, (1, 1), ((1, 0, 1, table(0, (6,)), unit(1)),)))
        web = (0, (1, 1, 1), ((1, 0, 1, table(0, (3,)), table(0, (2,))), (2, 0, 1, table(0, (4,)), unit(1))))
        self.assertEqual(drawn(web, 0), (0, (1, 1), ((1, 0, 1, table(0, (4,)), table(0, ((3, 2),))),)))

    def test_places_without_room(self):
        web = (3, (2, 0, 1), ((0, 1, 0, (), ()), (1, 2, 1, ((),), unit(1)), (1, 1, 2, ((), ()), ((), ()))))
        told = (3, (2, 1), ((0, 1, 1, (noughts(2),), unit(1)), (0, 0, 2, (noughts(2),) * 2, (noughts(2),) * 2)))
        self.assertEqual(drawn(web, 0), told)
        self.assertEqual(drawn((3, (0, 0), ((1, 0, 0, (), ()),)), 0), (3, (0,), ()))
        web = (3, (0, 1), ((0, 1, 1, ((),), unit(1)), (1, 1, 1, unit(1), table(3, (2,)))))
        self.assertEqual(drawn(web, 0), (3, (0,), ((0, 0, 1, ((),), ((),)),)))

    def hold_ends(self, web, tie, told):
        """Each other tie stands where it stood, or at the one place, its tables led first by the going forth."""
        field, sizes, ties = web
        one, other = ties[tie][:2]
        moved = [place for place in range(len(sizes)) if place != other]
        for old, new in zip(without(ties, tie), told[2]):
            self.assertEqual(new[2], old[2])
            for end in (0, 1):
                place, lines = moved[new[end]], new[3 + end]
                self.assertEqual(place, one if old[end] == other else old[end])
                for column in unit(sizes[place]):
                    went = gone(web, one, column, [(tie, True)])[1] if old[end] == other else column
                    self.assertEqual(led(field, lines, column), led(field, old[3 + end], went))

    def test_each_tie_of_all_sorts_of_webs(self):
        held = refused = 0
        for web in drawable_webs(221):
            for tie in range(len(web[2])):
                if not can_be_drawn(web, tie):
                    self.refuses(NoWay, drawn, web, tie, at=tie)
                    refused += 1
                elif not full_when_drawn(web, tie):
                    told = drawn(web, tie)
                    self.assertIs(is_web(told), True)
                    self.assertEqual((told[0], told[1]), (web[0], without(web[1], web[2][tie][1])))
                    self.assertEqual(len(told[2]), len(web[2]) - 1)
                    self.hold_ends(web, tie, told)
                    self.assertEqual((free(told), gap(told)), (free(web), gap(web)))
                    held += 1
        self.assertGreater(held, 80)
        self.assertGreater(refused, 80)

    def test_sections_are_one_to_one(self):
        chance = new_chance(222)
        for web in drawable_webs(222):
            for tie in range(len(web[2])):
                if can_be_drawn(web, tie) and not full_when_drawn(web, tie):
                    told, other = drawn(web, tie), web[2][tie][1]
                    for _ in range(2):
                        whole = chance_section(chance, web)
                        left = without(whole, other)
                        self.assertIs(agrees(told, left), True)
                        self.assertEqual(drawn_back(web, tie, left), whole)
                        again = chance_section(chance, told)
                        back = drawn_back(web, tie, again)
                        self.is_list_of_columns(back, web[1])
                        self.assertTrue(agreeing(web, back))
                        self.assertEqual(without(back, other), again)

    def test_all_assignments_of_small_webs(self):
        held, chance = 0, new_chance(223)
        webs = [chance_stiff_web(chance, prime, 3, 3, 4 - prime) for prime in (2, 3) for _ in range(6)]
        for web in list(small_webs(223)) + webs:
            for tie in range(len(web[2])):
                if can_be_drawn(web, tie):
                    told, other = drawn(web, tie), web[2][tie][1]
                    self.assertEqual(count(told), count(web))
                    for whole in every_columns(web[0], told[1]):
                        if agreeing(told, whole):
                            self.assertEqual(without(drawn_back(web, tie, whole), other), whole)
                        else:
                            self.refuses(NoSection, drawn_back, web, tie, whole)
                    held += 1
        self.assertGreater(held, 15)

    def test_no_tie(self):
        for call in (drawn, between):
            for tie in (-1, -2, 1, 2, 12, 10 ** 20, -(10 ** 20)):
                self.refuses(NoTie, call, DOUBLE, tie)
            self.refuses(NoTie, call, (0, (1, 1), ()), 0)
        for tie in (-1, 1, 10 ** 20):
            for whole in ([row(0, 3)], [], [((2, 2),)], [row(0, 3)] * 2):
                self.refuses(NoTie, drawn_back, DOUBLE, tie, whole)

    def test_no_way(self):
        chance = new_chance(224)
        for field in SOME_FIELDS:
            good = chance_stiff_table(chance, field, 2)
            other_tie = (0, 1, 2, good, good)
            for at, tie in (
                (0, (0, 0, 2, good, good)), (1, (1, 1, 2, good, good)), (0, (0, 1, 2, good, (good[0], good[0]))),
                (1, (0, 1, 2, good, (noughts(2), good[1]))), (1, (1, 0, 1, good[:1], good[:1])),
                (0, (0, 1, 0, (), ())), (1, (0, 1, 3, good + good[:1], good + good[:1])),
            ):
                ties = (tie, other_tie) if at == 0 else (other_tie, tie)
                self.refuses(NoWay, drawn, (field, (2, 2), ties), at, at=at)
                self.refuses(NoWay, drawn_back, (field, (2, 2), ties), at, [], at=at)
            # The first table need not turn back.
            web = (field, (2, 2), ((0, 1, 2, (noughts(2),) * 2, good),))
            self.assertEqual(drawn(web, 0), (field, (2,), ()))
            self.assertEqual(drawn_back(web, 0, [unit(2)[0]]), [unit(2)[0], noughts(2)])
        self.refuses(NoWay, drawn, (0, (1, 0), ((0, 1, 1, unit(1), ((),)),)), 0, at=0)
        self.refuses(NoWay, drawn, (0, (0, 1), ((0, 1, 0, (), ()),)), 0, at=0)

    def drawn_to(self, first, second, beside):
        """A tie of such numbers, and one beside it from the place that goes."""
        ties = ((0, 1, 1, table(0, (first,)), table(0, (second,))), (1, 0, 1, table(0, (beside,)), unit(1)))
        return (0, (1, 1), ties)

    def test_numbers_beyond_the_bounds(self):
        for first, second, beside, told in (
            (9, 1, 11, (99, 1)), (-9, 1, 11, (-99, 1)), (10, 1, 10, None), (-10, 1, 10, None), (1, 9, (1, 11), (1, 99)),
            (1, 10, (1, 10), None), (99, 1, (1, 99), ONE), (99, 98, (98, 99), ONE), (99, 1, 99, None),
            (1, (1, 99), 1, (99, 1)), (1, (1, 50), 2, None), (2, 99, (1, 2), (1, 99)), (0, 99, (1, 99), NOUGHT),
            ((97, 98), 1, (98, 97), ONE), ((97, 98), 1, (97, 98), None), ((50, 99), (50, 99), 99, (99, 1)),
        ):
            web = self.drawn_to(first, second, beside)
            if told is None:
                self.refuses(Full, drawn, web, 0)
                for whole in ([(ONE,)], [(NOUGHT,)], [], [((2, 2),)]):
                    self.refuses(Full, drawn_back, web, 0, whole)
            else:
                self.assertEqual(drawn(web, 0), (0, (1,), ((0, 0, 1, ((told,),), unit(1)),)))
        # The table that goes forth may have greater numbers itself, where nothing else stands there.
        web = (0, (1, 1), ((0, 1, 1, table(0, (99,)), table(0, ((1, 99),))),))
        self.assertEqual(drawn(web, 0), (0, (1,), ()))
        self.assertEqual(drawn_back(web, 0, [row(0, 2)]), [row(0, 2), row(0, 19602)])

    def test_no_way_ahead_of_too_great_numbers(self):
        web = self.drawn_to(99, 1, 99)
        self.refuses(NoWay, drawn, (0, (1, 1), web[2] + ((0, 0, 1, unit(1), unit(1)),)), 2, at=2)
        self.refuses(NoWay, drawn, self.drawn_to(99, 0, 99), 0, at=0)

    def test_by_a_prime_numbers_stay_within(self):
        chance = new_chance(225)
        for prime in PRIMES:
            web = chance_stiff_web(chance, prime, 3, 5, 3)
            for tie in range(5):
                if web[2][tie][0] != web[2][tie][1]:
                    self.assertIs(is_web(drawn(web, tie)), True)

    def test_webs_that_are_none(self):
        for tie in (0, -1, 20):
            hold_web_refusals(self, drawn, tie)
            hold_web_refusals(self, between, tie)
            for whole in ([(ONE,)], [], [((2, 2),)]):
                hold_web_refusals(self, drawn_back, tie, whole)


class DrawnBack(Case):
    def test_told_sections(self):
        self.assertEqual(drawn_back(DOUBLE, 0, [row(0, (1, 2))]), [row(0, (1, 2)), row(0, 1)])
        about = (0, (1, 1), ((1, 0, 1, table(0, (3,)), table(0, (2,))),))
        self.assertEqual(drawn_back(about, 0, [row(0, 2)]), [row(0, 3), row(0, 2)])
        web = (3, (2, 0, 1), ((0, 1, 0, (), ()), (1, 2, 1, ((),), unit(1))))
        self.assertEqual(drawn_back(web, 0, [row(3, 1, 2), row(3, 0)]), [row(3, 1, 2), (), row(3, 0)])

    def test_no_assignment_and_no_section(self):
        web = (0, (1, 1, 1), DOUBLE[2] + ((1, 2, 1, unit(1), unit(1)),))
        self.assertEqual(drawn_back(web, 0, [row(0, 1), row(0, 2)]), [row(0, 1), row(0, 2), row(0, 2)])
        self.refuses(NoSection, drawn_back, web, 0, [row(0, 1), row(0, 3)])
        for bad in bad_wholes(drawn(web, 0)):
            self.refuses(BadWhole, drawn_back, web, 0, bad)
        # An assignment of the web itself is none of the drawn one.
        self.refuses(BadWhole, drawn_back, web, 0, [row(0, 1), row(0, 2), row(0, 2)])
        self.refuses(BadWhole, drawn_back, WEB, 1, [noughts(2), noughts(1), noughts(2)])
        self.refuses(BadWhole, drawn_back, WEB, 1, [noughts(1), noughts(2)])
        self.assertEqual(drawn_back(WEB, 1, [noughts(2), noughts(1)]), [noughts(2), noughts(1), noughts(2)])

    def test_numbers_of_a_section_have_no_bounds(self):
        far = number(0, 10 ** 3999 + 1, 7 ** 4000)
        self.assertEqual(drawn_back(DOUBLE, 0, [(far,)]), [(far,), (number(0, 2 * far[0], far[1]),)])


class Between(Case):
    def test_told_webs(self):
        told = (0, (1, 1, 1), ((0, 2, 1, table(0, (2,)), unit(1)), (2, 1, 1, unit(1), unit(1))))
        self.assertEqual(between(DOUBLE, 0), told)
        field, sizes, ties = WEB
        there, onward = (2, 3, 1, table(5, (1, 0)), unit(1)), (3, 2, 1, unit(1), table(5, (4, 1)))
        self.assertEqual(between(WEB, 2), (5, (2, 1, 2, 1), ties[:2] + (there,) + ties[3:] + (onward,)))
        web = (2, (0,), ((0, 0, 0, (), ()),))
        self.assertEqual(between(web, 0), (2, (0, 0), ((0, 1, 0, (), ()), (1, 0, 0, (), ()))))
        web = (2, (0, 1), ((0, 1, 2, ((), ()), table(2, (1,), (0,))),))
        told = (2, (0, 1, 2), ((0, 2, 2, ((), ()), unit(2)), (2, 1, 2, unit(2), table(2, (1,), (0,)))))
        self.assertEqual(between(web, 0), told)

    def test_each_section_goes_on_to_just_one(self):
        chance = new_chance(226)
        for web in drawable_webs(226):
            for tie, (one, other, room, first, second) in enumerate(web[2]):
                told = between(web, tie)
                self.assertIs(is_web(told), True)
                self.assertEqual(told[1], web[1] + (room,))
                self.assertEqual((free(told), gap(told)), (free(web), gap(web)))
                whole = chance_section(chance, web)
                longer = whole + [led(web[0], first, whole[one])]
                self.assertIs(agrees(told, longer), True)
                # As many are free: where each section of the one goes on, and so to just one, none is left over.
                for base in sections(told):
                    self.assertTrue(agreeing(web, base[:-1]))
                    self.assertEqual(base[-1], led(web[0], first, base[one]))

    def test_what_does_not_agree_does_not_agree_then(self):
        chance = new_chance(227)
        for web in drawable_webs(227):
            for tie, (one, other, room, first, second) in enumerate(web[2]):
                whole = chance_whole(chance, web)
                longer = whole + [led(web[0], first, whole[one])]
                differences = told_differences(between(web, tie), longer)
                self.assertEqual(differences[tie], noughts(room))
                self.assertEqual(differences[-1], told_differences(web, whole)[tie])

    def test_drawn_together_again_the_tie_is_the_last(self):
        for web in drawable_webs(228):
            for tie in range(len(web[2])):
                told = drawn(between(web, tie), tie)
                self.assertEqual(told, (web[0], web[1], without(web[2], tie) + (web[2][tie],)))

    def test_eight_places_and_twelve_ties(self):
        tie = (0, 0, 1, table(0, (99,)), table(0, ((1, 99),)))
        for places in range(1, 9):
            for ties in range(1, 13):
                web = (0, (1,) * places, (tie,) * ties)
                for at in (0, ties - 1):
                    if places == 8 or ties == 12:
                        self.refuses(Full, between, web, at)
                    else:
                        self.assertIs(is_web(between(web, at)), True)

    def test_no_tie_ahead_of_full(self):
        tie = (0, 0, 1, unit(1), unit(1))
        for web in ((0, (1,) * 8, (tie,)), (0, (1,), (tie,) * 12), (0, (1,) * 8, (tie,) * 12), (0, (1,) * 8, ())):
            for at in (-1, len(web[2]), 12, 10 ** 20):
                self.refuses(NoTie, between, web, at)


class Widest(Case):
    def test_eight_places_and_twelve_ties_of_room_three(self):
        chance = new_chance(229)
        start = time.perf_counter()
        for field in SOME_FIELDS:
            web = widest_web(chance, field)
            for tie in range(12):
                self.refuses(Full, between, web, tie)
                if can_be_drawn(web, tie):
                    self.assertIs(full_when_drawn(web, tie), field == 0)
            web = wide_even_web(field)
            for tie in range(12):
                if can_be_drawn(web, tie):
                    # Such a tie leaves columns as they are, and so their numbers.
                    self.assertEqual(free(drawn(web, tie)), free(web))
            web = (field, (3,) * 8, tuple(
                (at % 8, (at + 1) % 8, 3, chance_table(chance, field, 3, 3, 2), unit(3)) for at in range(0, 12, 2)
            ))
            for tie in range(6):
                self.assertEqual((free(drawn(web, tie)), gap(drawn(web, tie))), (free(web), gap(web)))
        self.assertLess(time.perf_counter() - start, 20)


class HandedInAndTold(Case):
    def test_what_was_handed_in_stays_as_it_was(self):
        for whole in ([row(0, 3)], [], [((2, 2),)]):
            self.stays_as_it_was(drawn_back, DOUBLE, 0, whole)
        web = (0, (1,), ((0, 0, 1, unit(1), unit(1)),))
        self.stays_as_it_was(drawn, web, 0)
        self.stays_as_it_was(between, web, 0)

    def test_changing_a_told_list_changes_no_later_answer(self):
        whole = [row(0, 3)]
        self.answers_stay(lambda: drawn_back(DOUBLE, 0, whole))
        self.assertEqual(whole, [row(0, 3)])

    def test_by_name(self):
        self.assertEqual(drawn(tie=0, web=DOUBLE), (0, (1,), ()))
        self.assertEqual(drawn_back(whole=[row(0, 1)], tie=0, web=DOUBLE), [row(0, 1), row(0, 2)])
        self.assertEqual(between(tie=0, web=DOUBLE), between(DOUBLE, 0))


if __name__ == "__main__":
    unittest.main()
