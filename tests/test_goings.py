import unittest

from helpers import (
    NOUGHT, ONE, SOME_FIELDS, Case, agreeing, bad_numbers, chance_rows, chance_stiff_table, chance_stiff_web,
    chance_table, combined, every_row, hold_web_refusals, led, many_webs, new_chance, noughts, number, plain_rank, row,
    table, unit, wide_even_web, widest_web,
)
from stalkweb.errors import BadSteps, BadWhole, NoPlace, NotStiff, NoWay
from stalkweb.goings import gone, is_stiff, kept_columns, turning
from stalkweb.rings import pieces, ring, way
from stalkweb.rows import null_base
from stalkweb.sayings import goes_on
from stalkweb.whole import free

# A ring of two ties between places of room 1: twice forth, and once back.
RING = (0, (1, 1), ((0, 1, 1, table(0, (2,)), unit(1)), (1, 0, 1, table(0, (3,)), unit(1))))
# Each tie but the last can be gone one way alone.
ONE_WAY = (5, (1, 2, 0), (
    (0, 1, 2, table(5, (1,), (3,)), table(5, (1, 1), (0, 1))), (2, 1, 0, (), ()), (0, 1, 1, unit(1), table(5, (1, 2))),
    (1, 1, 2, unit(2), table(5, (0, 1), (1, 0))),
))
BACK_AND_FORTH = (True, False)


def step_ends(web, tie, forth):
    one, other, room, first, second = web[2][tie]
    return (one, other, first, second) if forth else (other, one, second, first)


def goes(web, tie, forth):
    """Whether the table at the step's end turns back."""
    start, end, there, ahead = step_ends(web, tie, forth)
    return len(ahead) == web[1][end] == plain_rank(web[0], ahead)


def chance_steps(chance, web, place, count):
    """Steps from the place that can be gone, as many as count where there are such."""
    at, found = place, []
    for _ in range(count):
        ways = [
            (tie, forth) for tie in range(len(web[2])) for forth in BACK_AND_FORTH
            if step_ends(web, tie, forth)[0] == at and goes(web, tie, forth)
        ]
        if ways:
            found.append(chance.choice(ways))
            at = step_ends(web, *found[-1])[1]
    return found


def turned_about(steps):
    return [(tie, not forth) for tie, forth in steps[::-1]]


def some_webs(seed):
    chance = new_chance(seed)
    found = [web for web in many_webs(seed) if web[2]]
    for field in SOME_FIELDS:
        found.append(chance_stiff_web(chance, field, 4, 6, 3))
    return found + [ONE_WAY, RING]


class Gone(Case):
    def test_told_goings(self):
        self.assertEqual(gone(RING, 0, row(0, 5), []), (0, row(0, 5)))
        self.assertEqual(gone(RING, 0, row(0, 5), [(0, True)]), (1, row(0, 10)))
        self.assertEqual(gone(RING, 1, row(0, 5), [(0, False)]), (0, row(0, (5, 2))))
        self.assertEqual(gone(RING, 0, row(0, 5), [(0, True), (1, True)]), (0, row(0, 30)))
        self.assertEqual(gone(RING, 0, row(0, 5), [(1, False), (0, False)]), (0, row(0, (5, 6))))
        self.assertEqual(gone(RING, 0, row(0, 5), [(0, True), (0, False)]), (0, row(0, 5)))
        self.assertEqual(gone(ONE_WAY, 0, row(5, 2), [(0, True)]), (1, row(5, 1, 1)))
        self.assertEqual(gone(ONE_WAY, 1, row(5, 2, 4), [(1, False)]), (2, ()))
        self.assertEqual(gone(ONE_WAY, 1, row(5, 2, 4), [(2, False)]), (0, row(5, 0)))

    def test_each_step_leads_to_what_its_end_leads_to_the_same(self):
        chance = new_chance(151)
        walked = 0
        for web in some_webs(151):
            for tie in range(len(web[2])):
                for forth in BACK_AND_FORTH:
                    start, end, there, ahead = step_ends(web, tie, forth)
                    column = chance_rows(chance, web[0], 1, web[1][start])[0]
                    if goes(web, tie, forth):
                        told = gone(web, start, column, [(tie, forth)])
                        self.assertIs(told.__class__, tuple)
                        self.assertEqual(told[0], end)
                        self.assertIs(told[1].__class__, tuple)
                        self.assertEqual(len(told[1]), web[1][end])
                        self.assertEqual(led(web[0], ahead, told[1]), led(web[0], there, column))
                        walked += 1
                    else:
                        self.refuses(NoWay, gone, web, start, column, [(tie, forth)], at=0)
        self.assertGreater(walked, 200)

    def test_steps_one_behind_the_other(self):
        chance = new_chance(152)
        for web in some_webs(152):
            for place in range(len(web[1])):
                column = chance_rows(chance, web[0], 1, web[1][place])[0]
                steps = chance_steps(chance, web, place, 5)
                at, led_on = place, column
                for step in steps:
                    at, led_on = gone(web, at, led_on, [step])
                self.assertEqual(gone(web, place, column, steps), (at, led_on))

    def test_a_step_there_and_back_leaves_all_as_it_was(self):
        chance = new_chance(153)
        for field in SOME_FIELDS:
            web = chance_stiff_web(chance, field, 4, 6, 3)
            for place in range(4):
                column = chance_rows(chance, field, 1, 3)[0]
                steps = chance_steps(chance, web, place, 6)
                self.assertEqual(gone(web, place, column, steps + turned_about(steps)), (place, column))
                self.assertEqual(turning(web, place, steps + turned_about(steps)), unit(3))

    def test_through_a_place_without_room_all_comes_to_nought(self):
        web = (3, (2, 0), ((0, 1, 0, (), ()), (1, 0, 2, ((), ()), unit(2))))
        steps = [(0, True), (1, True)]
        self.assertEqual(gone(web, 0, row(3, 1, 2), steps), (0, noughts(2)))
        self.assertEqual(turning(web, 0, steps), (noughts(2),) * 2)
        self.assertEqual(turning(web, 0, steps * 3), (noughts(2),) * 2)
        self.assertEqual(turning(web, 0, steps[:1]), ())
        self.assertEqual(turning(web, 1, steps[1:]), ((), ()))
        self.assertEqual(turning(web, 1, steps[1:] + steps), ((), ()))

    def test_many_steps(self):
        self.assertEqual(gone(RING, 0, row(0, 1), [(0, True), (1, True)] * 300), (0, (number(0, 6 ** 300),)))
        self.assertEqual(gone(RING, 0, row(0, 1), [(0, True), (0, False)] * 2000), (0, row(0, 1)))
        self.assertEqual(turning(RING, 0, [(0, True), (0, False)] * 2000), unit(1))

    def test_no_place_ahead_of_no_column_ahead_of_steps(self):
        for place in (-1, -2, 2, 5, 10 ** 20, -(10 ** 20)):
            self.refuses(NoPlace, gone, RING, place, row(0, 5), [])
            self.refuses(NoPlace, gone, RING, place, (ONE, ONE), [(7, True)])
            self.refuses(NoPlace, gone, RING, place, ((2, 2),), [])
        for field in SOME_FIELDS:
            web = (field, (1, 2), ((0, 1, 1, unit(1), table(field, (1, 0))),))
            for steps in ([], [(0, True)], [(9, True)], [(0, False)]):
                for column in ((), (ONE, ONE)):
                    self.refuses(BadWhole, gone, web, 0, column, steps)
                for column in ((), (ONE,), (ONE, ONE, ONE)):
                    self.refuses(BadWhole, gone, web, 1, column, steps)
                for bad in bad_numbers(field):
                    self.refuses(BadWhole, gone, web, 0, (bad,), steps)
                    self.refuses(BadWhole, gone, web, 1, (ONE, bad), steps)

    def test_steps_that_do_not_follow_and_of_no_tie(self):
        for tie in (-1, -2, 2, 3, 10 ** 20, -(10 ** 20)):
            for forth in BACK_AND_FORTH:
                self.both_refuse(BadSteps, RING, 0, [(tie, forth)])
                self.both_refuse(BadSteps, RING, 0, [(0, True), (tie, forth)])
        for place, steps in (
            (0, [(0, False)]), (0, [(1, True)]), (1, [(0, True)]), (1, [(1, False)]), (0, [(0, True), (0, True)]),
            (0, [(0, True), (1, False)]), (0, [(0, True), (1, True), (1, True)]),
            (0, [(0, True), (0, False), (0, False)]),
        ):
            self.both_refuse(BadSteps, RING, place, steps)
        # A loop may be gone both ways, and nowhere else.
        self.assertEqual(gone(ONE_WAY, 1, row(5, 1, 2), [(3, True), (3, False)]), (1, row(5, 1, 2)))
        self.both_refuse(BadSteps, ONE_WAY, 0, [(3, True)])

    def both_refuse(self, kind, web, place, steps, **fields):
        self.refuses(kind, gone, web, place, noughts(web[1][place]), steps, **fields)
        self.refuses(kind, turning, web, place, steps, **fields)

    def test_no_way(self):
        self.both_refuse(NoWay, ONE_WAY, 1, [(0, False)], at=0)
        self.both_refuse(NoWay, ONE_WAY, 0, [(2, True)], at=0)
        # A table without rows does not turn back where the place has room.
        self.both_refuse(NoWay, ONE_WAY, 2, [(1, True)], at=0)
        self.both_refuse(NoWay, ONE_WAY, 0, [(0, True), (3, True), (0, False)], at=2)
        web = (7, (0, 0), ((0, 1, 1, ((),), ((),)),))
        self.both_refuse(NoWay, web, 0, [(0, True)], at=0)
        web = (7, (2, 2), ((0, 1, 2, unit(2), table(7, (1, 2), (2, 4))),))
        self.both_refuse(NoWay, web, 0, [(0, True)], at=0)
        self.assertEqual(gone(web, 1, row(7, 1, 1), [(0, False)]), (0, row(7, 3, 6)))

    def test_each_step_is_looked_at_when_it_is_gone(self):
        for behind in ([(9, True)], [(0, True)], [(0, False)], [(3, True), (9, True)]):
            self.both_refuse(NoWay, ONE_WAY, 0, [(2, True)] + behind, at=0)
            self.both_refuse(NoWay, ONE_WAY, 0, [(0, True), (3, False), (0, False)] + behind, at=2)
        for steps in ([(9, True), (2, True)], [(1, True), (2, True)], [(0, False), (2, True)]):
            self.both_refuse(BadSteps, ONE_WAY, 0, steps)
        # A step that neither follows nor turns back is refused for not following.
        self.both_refuse(BadSteps, ONE_WAY, 0, [(0, True), (2, True)])
        self.both_refuse(BadSteps, ONE_WAY, 0, [(1, True)])

    def test_webs_that_are_none(self):
        for place, column, steps in ((0, (ONE,), []), (-1, (), [(9, True)]), (0, ((2, 2),), [(0, True)])):
            hold_web_refusals(self, gone, place, column, steps)


class Turning(Case):
    def test_told_turnings(self):
        self.assertEqual(turning(RING, 0, []), unit(1))
        self.assertEqual(turning(RING, 0, [(0, True), (1, True)]), table(0, (6,)))
        self.assertEqual(turning(RING, 1, [(1, True), (0, True)]), table(0, (6,)))
        self.assertEqual(turning(ONE_WAY, 0, [(0, True)]), table(5, (3,), (3,)))
        self.assertEqual(turning(ONE_WAY, 1, [(3, True)]), table(5, (0, 1), (1, 0)))
        self.assertEqual(turning(ONE_WAY, 1, [(1, False)]), ())
        self.assertEqual(turning(ONE_WAY, 2, []), ())

    def test_it_leads_each_column_as_gone_does(self):
        chance = new_chance(154)
        for web in some_webs(154):
            for place, room in enumerate(web[1]):
                self.assertEqual(turning(web, place, []), unit(room))
                steps = chance_steps(chance, web, place, 5)
                told = turning(web, place, steps)
                self.assertIs(told.__class__, tuple)
                self.assertEqual([(line.__class__, len(line)) for line in told], [(tuple, room)] * len(told))
                for column in list(unit(room)) + chance_rows(chance, web[0], 2, room):
                    self.assertEqual(led(web[0], told, column), gone(web, place, column, steps)[1])
                self.assertEqual(len(told), web[1][gone(web, place, noughts(room), steps)[0]])

    def test_no_place_ahead_of_steps(self):
        for place in (-1, 2, 10 ** 20):
            self.refuses(NoPlace, turning, RING, place, [])
            self.refuses(NoPlace, turning, RING, place, [(9, True)])

    def test_webs_that_are_none(self):
        for place, steps in ((0, []), (-1, [(9, True)])):
            hold_web_refusals(self, turning, place, steps)


class IsStiff(Case):
    def test_told_truths(self):
        self.assertIs(is_stiff(RING), True)
        self.assertIs(is_stiff(ONE_WAY), False)
        self.assertIs(is_stiff((0, (3, 1), ())), True)
        self.assertIs(is_stiff((0, (0, 0), ((0, 1, 0, (), ()),))), True)

    def test_a_rank_less_or_another_count_of_rows(self):
        chance = new_chance(155)
        for field in SOME_FIELDS:
            good = chance_stiff_table(chance, field, 2)
            flat_table = (good[0], combined(field, (number(field, -1),), good[:1], 2))
            for first, second in ((good, flat_table), (flat_table, good), (flat_table, flat_table)):
                for ends in ((0, 1), (1, 0), (0, 0)):
                    self.assertIs(is_stiff((field, (2, 2), (ends + (2, first, second),))), False)
            self.assertIs(is_stiff((field, (2, 2), ((0, 1, 2, good, good),))), True)
            self.assertIs(is_stiff((field, (2, 2), ((0, 1, 2, good, good), (1, 1, 1, good[:1], good[:1])))), False)
            self.assertIs(is_stiff((field, (2, 2), ((0, 1, 0, (), ()),))), False)
            self.assertIs(is_stiff((field, (2, 0), ((0, 1, 0, (), ()),))), False)
            self.assertIs(is_stiff((field, (0, 2), ((0, 1, 0, (), ()),))), False)
            self.assertIs(is_stiff((field, (0, 0), ((0, 1, 1, ((),), ((),)),))), False)
            self.assertIs(is_stiff((field, (2, 0), ((0, 1, 2, good, ((), ())),))), False)
            self.assertIs(is_stiff((field, (0, 2), ((0, 1, 2, ((), ()), good),))), False)

    def test_all_sorts_of_webs(self):
        for web in some_webs(156):
            steps = [(tie, forth) for tie in range(len(web[2])) for forth in BACK_AND_FORTH]
            self.assertIs(is_stiff(web), all(goes(web, tie, forth) for tie, forth in steps))

    def test_webs_that_are_none(self):
        hold_web_refusals(self, is_stiff)


class KeptColumns(Case):
    def test_told_columns(self):
        self.assertEqual(kept_columns(RING, 0), [])
        web = (0, (1, 1, 2), RING[2][:1] + ((1, 0, 1, table(0, (1,)), table(0, (2,))),))
        self.assertEqual([kept_columns(web, place) for place in range(3)], [[(ONE,)], [(ONE,)], list(unit(2))])
        web = (7, (2,), ((0, 0, 2, unit(2), table(7, (0, 1), (1, 0))),))
        self.assertEqual(kept_columns(web, 0), [row(7, 1, 1)])
        web = (7, (2, 2), ((0, 1, 2, unit(2), unit(2)), (1, 1, 2, unit(2), table(7, (1, 2), (0, 1)))))
        self.assertEqual([kept_columns(web, place) for place in (0, 1)], [[row(7, 1, 0)]] * 2)
        self.assertEqual(kept_columns((0, (0,), ()), 0), [])

    def hold(self, web):
        total = 0
        for piece in pieces(web):
            counts = set()
            for place in piece:
                told, room = kept_columns(web, place), web[1][place]
                self.is_list_of_columns(told, [room] * len(told))
                # Told as a null base is told: of the rows that lead just these columns to nought.
                self.assertEqual(null_base(web[0], null_base(web[0], told, room), room), told)
                for column in told:
                    self.hold_column(web, piece, place, column)
                counts.add(len(told))
            self.assertEqual(len(counts), 1)
            total += counts.pop()
        self.assertEqual(total, free(web))
        return total

    def hold_column(self, web, piece, place, column):
        """The column goes on alone, and each ring of the piece leaves it."""
        whole = goes_on(web, [(place, column)])
        self.assertIsNotNone(whole)
        self.assertTrue(agreeing(web, whole))
        for tie, ends in enumerate(web[2]):
            if ends[0] in piece:
                there = way(web, place, ends[0])
                steps = there + ring(web, tie) + turned_about(there)
                self.assertEqual(gone(web, place, column, steps), (place, column))

    def test_all_sorts_of_stiff_webs(self):
        chance = new_chance(157)
        totals = []
        for field in SOME_FIELDS:
            for places, ties, room in ((1, 2, 2), (2, 2, 3), (3, 2, 2), (4, 4, 2), (5, 4, 1), (5, 6, 3), (8, 9, 2)):
                totals.append(self.hold(chance_stiff_web(chance, field, places, ties, room)))
                web = chance_stiff_web(chance, field, places, ties, room)
                even = tuple((one, other, size, first, first) for one, other, size, first, second in web[2])
                totals.append(self.hold((field, web[1], even)))
        self.assertIn(0, totals)
        self.assertGreater(max(totals), 4)

    def test_pieces_of_unlike_rooms(self):
        chance = new_chance(158)
        for field in SOME_FIELDS:
            ties = []
            for one, other, room in ((0, 2, 2), (3, 1, 1), (2, 0, 2), (4, 4, 3), (5, 5, 0), (1, 3, 1)):
                ties.append((one, other, room, chance_stiff_table(chance, field, room), unit(room)))
            self.hold((field, (2, 1, 2, 1, 3, 0, 3), tuple(ties)))

    def test_just_the_columns_that_go_on(self):
        chance = new_chance(159)
        for prime in (2, 3):
            for _ in range(10):
                web = chance_stiff_web(chance, prime, 3, 4, 2)
                for place in range(3):
                    told = kept_columns(web, place)
                    sums = [combined(prime, factors, told, 2) for factors in every_row(prime, len(told))]
                    on = [column for column in every_row(prime, 2) if goes_on(web, [(place, column)]) is not None]
                    self.assertEqual(sorted(sums), sorted(on))

    def test_eight_places_and_twelve_ties_of_room_three(self):
        for web in (wide_even_web(0), wide_even_web(97), widest_web(new_chance(2), 0)):
            self.assertIs(is_stiff(web), True)
            self.hold(web)

    def test_not_stiff_ahead_of_no_place(self):
        for place in (0, 1, 2, -1, 3, 10 ** 20):
            self.refuses(NotStiff, kept_columns, ONE_WAY, place)
        for place in (-1, -2, 2, 3, 10 ** 20, -(10 ** 20)):
            self.refuses(NoPlace, kept_columns, RING, place)
        # Also of a piece in which all tables turn back.
        web = (0, (1, 1, 1), RING[2] + ((2, 2, 1, unit(1), table(0, (0,))),))
        self.refuses(NotStiff, kept_columns, web, 0)

    def test_webs_that_are_none(self):
        for place in (0, -1):
            hold_web_refusals(self, kept_columns, place)


class HandedInAndTold(Case):
    def test_what_was_handed_in_stays_as_it_was(self):
        steps = [(0, True), (1, True)]
        gone(RING, 0, row(0, 5), steps)
        turning(RING, 0, steps)
        self.assertEqual(steps, [(0, True), (1, True)])
        steps = [(0, True), (0, True)]
        self.refuses(BadSteps, gone, RING, 0, row(0, 5), steps)
        self.assertEqual(steps, [(0, True), (0, True)])

    def test_changing_a_told_list_changes_no_later_answer(self):
        web = (7, (2,), ())
        told = kept_columns(web, 0)
        told.clear()
        self.assertEqual(kept_columns(web, 0), list(unit(2)))

    def test_chance_tables_beside_a_step(self):
        # The table at a step's beginning need not turn back.
        chance = new_chance(160)
        for field in SOME_FIELDS:
            first = chance_table(chance, field, 2, 3)
            web = (field, (3, 2), ((0, 1, 2, first, unit(2)),))
            column = chance_rows(chance, field, 1, 3)[0]
            self.assertEqual(gone(web, 0, column, [(0, True)]), (1, led(field, first, column)))
            self.assertEqual(turning(web, 0, [(0, True)]), first)
            self.assertEqual(gone(web, 0, (NOUGHT,) * 3, [(0, True)]), (1, noughts(2)))

    def test_by_name(self):
        self.assertEqual(gone(web=RING, place=0, column=row(0, 5), steps=[(0, True)]), (1, row(0, 10)))
        self.assertEqual(turning(web=RING, place=0, steps=[(0, True)]), table(0, (2,)))
        self.assertIs(is_stiff(web=RING), True)
        self.assertEqual(kept_columns(web=RING, place=0), [])


if __name__ == "__main__":
    unittest.main()
