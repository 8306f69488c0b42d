import time
import unittest

from helpers import (
    NOUGHT, ONE, SOME_FIELDS, Case, bad_numbers, chance_number, chance_whole, combined, dot, every_columns, flat,
    hold_web_refusals, many_webs, minus, new_chance, noughts, plain_rank, rooms_of_ties, row, small_webs, table,
    told_differences, unit, wide_even_web, widest_web,
)
from stalkweb.errors import BadAsk
from stalkweb.gaps import bars, gap, meets, stands_against
from stalkweb.rows import met, null_base
from stalkweb.webs import great_rows
from stalkweb.whole import free

# Two ties between the same places, the second one twice the first.
TWICE = (0, (1, 1), ((0, 1, 1, unit(1), unit(1)), (0, 1, 1, table(0, (2,)), table(0, (2,)))))


def cancelled(web, weights):
    """At each place, tie by tie, what the tables bring with these weights."""
    field, sizes, ties = web
    found = [noughts(room) for room in sizes]
    for (one, other, room, first, second), column in zip(ties, weights):
        # The second table brings what takes off its negative.
        there = minus(field, noughts(sizes[other]), combined(field, column, second, sizes[other]))
        found[other] = minus(field, found[other], there)
        found[one] = minus(field, found[one], combined(field, column, first, sizes[one]))
    return found


def asks_of(chance, web):
    """Asks of all sorts: differences, bent ones, and chance ones."""
    differences = told_differences(web, chance_whole(chance, web))
    found = [differences, [noughts(room) for room in rooms_of_ties(web)]]
    found.append([tuple(chance_number(chance, web[0]) for _ in range(room)) for room in rooms_of_ties(web)])
    for tie, room in enumerate(rooms_of_ties(web)):
        if room:
            bent = minus(web[0], differences[tie], (ONE,) + noughts(room - 1))
            found.append(differences[:tie] + [bent] + differences[tie + 1:])
    return found


class Bars(Case):
    def test_told_bases(self):
        self.assertEqual(bars(TWICE), [[row(0, -2), row(0, 1)]])
        self.assertEqual(gap(TWICE), 1)
        self.assertEqual(bars((0, (2,), ())), [])
        self.assertEqual(gap((0, (2,), ())), 0)
        self.assertEqual(bars((0, (0,), ((0, 0, 2, ((), ()), ((), ())),))), [[row(0, 1, 0)], [row(0, 0, 1)]])
        self.assertEqual(bars((5, (1,), ((0, 0, 0, (), ()), (0, 0, 1, unit(1), unit(1))))), [[(), row(5, 1)]])
        self.assertEqual(bars((5, (1,), ((0, 0, 1, unit(1), table(5, (2,))),))), [])

    def test_all_sorts_of_webs(self):
        for seed in (111, 112):
            for web in many_webs(seed):
                base = bars(web)
                self.assertIs(base.__class__, list)
                lines = great_rows(web)
                turned = [tuple(line[at] for line in lines) for at in range(sum(web[1]))]
                self.assertEqual([flat(weights) for weights in base], null_base(web[0], turned, len(lines)))
                for weights in base:
                    self.is_list_of_columns(weights, rooms_of_ties(web))
                    self.assertEqual(cancelled(web, weights), [noughts(room) for room in web[1]])
                    self.assertEqual(combined(web[0], flat(weights), lines, sum(web[1])), noughts(sum(web[1])))

    def test_counts(self):
        for seed in (113, 114):
            for web in many_webs(seed):
                told = gap(web)
                self.assertIs(told.__class__, int)
                self.assertEqual(told, len(bars(web)))
                self.assertEqual(told, sum(rooms_of_ties(web)) - plain_rank(web[0], great_rows(web)))
                self.assertEqual(free(web) - told, sum(web[1]) - sum(rooms_of_ties(web)))

    def test_eight_places_and_twelve_ties_of_room_three(self):
        chance = new_chance(115)
        start = time.perf_counter()
        for field in SOME_FIELDS:
            for web in (widest_web(chance, field), wide_even_web(field)):
                base = bars(web)
                self.assertEqual(len(base), gap(web))
                self.assertEqual(gap(web), free(web) + 12)
                for weights in base:
                    self.assertEqual(cancelled(web, weights), [noughts(3)] * 8)
                for asks in asks_of(chance, web)[:4]:
                    column, weights = meets(web, asks), stands_against(web, asks)
                    self.assertEqual([column, weights].count(None), 1)
        # Far more than it takes; it is the growth of numbers that would need longer.
        self.assertLess(time.perf_counter() - start, 30)

    def test_webs_that_are_none(self):
        hold_web_refusals(self, bars)
        hold_web_refusals(self, gap)


class Asks(Case):
    def test_told_answers(self):
        self.assertEqual(meets(TWICE, [row(0, 3), row(0, 6)]), [row(0, -3), row(0, 0)])
        self.assertIsNone(stands_against(TWICE, [row(0, 3), row(0, 6)]))
        self.assertIsNone(meets(TWICE, [row(0, 3), row(0, 5)]))
        self.assertEqual(stands_against(TWICE, [row(0, 3), row(0, 5)]), [row(0, 2), row(0, -1)])
        self.assertEqual(meets((0, (2, 0), ()), []), [row(0, 0, 0), ()])
        self.assertIsNone(stands_against((0, (2, 0), ()), []))
        web = (3, (0,), ((0, 0, 1, ((),), ((),)), (0, 0, 0, (), ())))
        self.assertEqual(meets(web, [row(3, 0), ()]), [()])
        self.assertEqual(stands_against(web, [row(3, 2), ()]), [row(3, 2), ()])

    def test_either_met_or_barred(self):
        chance = new_chance(116)
        met_ones = barred_ones = 0
        for web in many_webs(116):
            field, lines = web[0], great_rows(web)
            for asks in asks_of(chance, web):
                whole, weights = meets(web, asks), stands_against(web, asks)
                self.assertEqual([whole, weights].count(None), 1)
                cancels = [dot(field, flat(other), flat(asks)) == NOUGHT for other in bars(web)]
                self.assertEqual(whole is not None, all(cancels))
                if whole is not None:
                    met_ones += 1
                    self.is_list_of_columns(whole, web[1])
                    self.assertEqual(told_differences(web, whole), asks)
                    self.assertEqual(flat(whole), met(field, lines, sum(web[1]), flat(asks)))
                else:
                    barred_ones += 1
                    self.is_list_of_columns(weights, rooms_of_ties(web))
                    self.assertEqual(cancelled(web, weights), [noughts(room) for room in web[1]])
                    self.assertEqual(dot(field, flat(weights), flat(asks)), ONE)
        self.assertGreater(min(met_ones, barred_ones), 50)

    def test_each_ask_of_small_webs(self):
        for web in small_webs(117):
            if sum(rooms_of_ties(web)) <= 5:
                reached = [told_differences(web, whole) for whole in every_columns(web[0], web[1])]
                for asks in every_columns(web[0], rooms_of_ties(web)):
                    self.assertEqual(meets(web, asks) is not None, asks in reached)
                    self.assertEqual(stands_against(web, asks) is None, asks in reached)

    def test_refusals(self):
        for field in SOME_FIELDS:
            web = (field, (1, 2), ((0, 1, 1, unit(1), table(field, (1, 0))), (1, 1, 2, unit(2), unit(2))))
            good = [(ONE,), (ONE, NOUGHT)]
            bents = [[], good[:1], good + [()], good + [(ONE,)], [(), good[1]], [(ONE, ONE), good[1]]]
            bents += [[good[0], (ONE,)], [good[0], (ONE, ONE, ONE)], [good[1], good[0]], [good[0], ()]]
            bents += [[(ONE, ONE, ONE)], [(ONE,) * 3, ()]]
            for bad in bad_numbers(field):
                bents += [[(bad,), good[1]], [good[0], (bad, ONE)], [good[0], (ONE, bad)]]
            for bent in bents:
                for call in (meets, stands_against):
                    self.refuses(BadAsk, call, web, bent)
            for call in (meets, stands_against):
                self.refuses(BadAsk, call, (field, (1, 2), ()), [()])
                self.refuses(BadAsk, call, (field, (1, 2), ((0, 1, 0, (), ()),)), [])

    def test_webs_that_are_none(self):
        for call in (meets, stands_against):
            hold_web_refusals(self, call, [(ONE,)])
            hold_web_refusals(self, call, [])
            hold_web_refusals(self, call, [((2, 2),)] * 20)


class HandedInAndTold(Case):
    def test_what_was_handed_in_stays_as_it_was(self):
        for asks in ([row(0, 3), row(0, 6)], [row(0, 3), row(0, 5)]):
            kept = list(asks)
            meets(TWICE, asks)
            stands_against(TWICE, asks)
            self.assertEqual(asks, kept)
        bad = [row(0, 3), ((2, 2),)]
        self.refuses(BadAsk, meets, TWICE, bad)
        self.assertEqual(bad, [row(0, 3), ((2, 2),)])

    def test_changing_a_told_list_changes_no_later_answer(self):
        self.answers_stay(
            lambda: bars(TWICE), lambda: bars(TWICE)[0], lambda: meets(TWICE, [row(0, 3), row(0, 6)]),
            lambda: stands_against(TWICE, [row(0, 3), row(0, 5)]),
        )

    def test_by_name(self):
        asks = [row(0, 3), row(0, 6)]
        self.assertEqual(bars(web=TWICE), bars(TWICE))
        self.assertEqual(gap(web=TWICE), 1)
        self.assertEqual(meets(web=TWICE, asks=asks), meets(TWICE, asks))
        self.assertIsNone(stands_against(web=TWICE, asks=asks))


if __name__ == "__main__":
    unittest.main()
