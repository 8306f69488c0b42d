import time
import unittest
from itertools import combinations

from helpers import (
    NOUGHT, ONE, SOME_FIELDS, Case, agreeing, bad_wholes, chance_section, chance_web, chance_whole, every_columns,
    hold_web_refusals, many_webs, new_chance, noughts, number, plain_rank, row, small_webs, table, unit,
    wide_even_web, widest_web,
)
from stalkweb.errors import BadView, BadWhole, NoSection, Unlike
from stalkweb.gaps import gap
from stalkweb.parts import covers, glued, joining, seen, view
from stalkweb.webs import agrees, great_rows, is_web
from stalkweb.whole import free

# A ring of three places, a loop at the last one, and a tie told twice.
RING = (5, (1, 2, 1), (
    (0, 1, 1, table(5, (2,)), table(5, (1, 3))), (1, 2, 1, table(5, (0, 1)), table(5, (4,))),
    (2, 0, 1, unit(1), table(5, (3,))), (2, 2, 1, unit(1), unit(1)), (1, 2, 1, table(5, (0, 1)), table(5, (4,))),
))
# Along both ties all three places have the same number.
SAME = (0, (1, 1, 1), ((0, 1, 1, unit(1), unit(1)), (1, 2, 1, unit(1), unit(1))))


def rising_lists(places):
    """All rising lists of one of so many places and more."""
    return [list(some) for many in range(1, places + 1) for some in combinations(range(places), many)]


def bad_lists(places):
    """Lists at which no web of so many places can be viewed."""
    found = [
        [], [-1], [places], [places + 3], [10 ** 20], [-(10 ** 20)], [0, 0], [places - 1, places - 1],
        [-1, 0], [0, places], list(range(places + 1)), list(range(-1, places)),
    ]
    if places > 1:
        found += [[1, 0], [0, 1, 1], [0, 1, 0], [0, 0, 1], list(range(places))[::-1]]
    return found


def told_covers(web, one, other):
    """Whether all places and ties are in one of the lists, by a way of its own."""
    ties = [{tie[0], tie[1]} for tie in web[2]] + [{place} for place in range(len(web[1]))]
    return all(ends <= set(one) or ends <= set(other) for ends in ties)


def chance_cover(chance, web):
    """Two lists that cover the web: some places, and all others with what they are tied to."""
    one = sorted(chance.sample(range(len(web[1])), chance.randint(1, len(web[1]))))
    other = {place for place in range(len(web[1])) if place not in one or chance.random() < 0.3}
    for tie in web[2]:
        if not {tie[0], tie[1]} <= set(one):
            other |= {tie[0], tie[1]}
    return one, sorted(other) or list(one)


class View(Case):
    def test_told_views(self):
        self.assertEqual(view(RING, [0, 1]), (5, (1, 2), (RING[2][0],)))
        tie = (0, 1, 1, table(5, (0, 1)), table(5, (4,)))
        self.assertEqual(view(RING, [1, 2]), (5, (2, 1), (tie, (1, 1, 1, unit(1), unit(1)), tie)))
        about = (1, 0, 1, unit(1), table(5, (3,)))
        self.assertEqual(view(RING, [0, 2]), (5, (1, 1), (about, (1, 1, 1, unit(1), unit(1)))))
        self.assertEqual(view(RING, [1]), (5, (2,), ()))
        self.assertEqual(view(RING, [2]), (5, (1,), ((0, 0, 1, unit(1), unit(1)),)))
        self.assertEqual(view((0, (0,), ()), [0]), (0, (0,), ()))

    def test_place_by_place_and_tie_by_tie(self):
        for web in many_webs(201):
            for places in rising_lists(len(web[1])):
                told = view(web, places)
                self.assertIs(is_web(told), True)
                self.assertEqual((told[0], told[1]), (web[0], tuple(web[1][place] for place in places)))
                inner = [tie for tie in web[2] if tie[0] in places and tie[1] in places]
                self.assertEqual(len(told[2]), len(inner))
                for tie, (one, other, *tables) in zip(told[2], inner):
                    self.assertEqual((places[tie[0]], places[tie[1]]), (one, other))
                    self.assertEqual(list(tie[2:]), tables)
                    self.assertEqual([tie.__class__, len(tie)], [tuple, 5])

    def test_a_view_at_all_places_is_the_web(self):
        for web in many_webs(202):
            self.assertEqual(view(web, list(range(len(web[1])))), web)

    def test_a_view_of_a_view_is_the_view_at_these_places(self):
        for web in [RING] + list(many_webs(203)):
            for places in rising_lists(len(web[1])):
                inner = view(web, places)
                for some in rising_lists(len(places)):
                    self.assertEqual(view(inner, some), view(web, [places[at] for at in some]))

    def test_bad_lists(self):
        for web in [RING] + list(many_webs(204)):
            for places in bad_lists(len(web[1])):
                self.refuses(BadView, view, web, places)

    def test_webs_that_are_none(self):
        for places in ([0], [], [1, 0], [9]):
            hold_web_refusals(self, view, places)


class Seen(Case):
    def test_columns_at_the_places(self):
        whole = [row(5, 1), row(5, 2, 3), row(5, 4)]
        self.assertEqual(seen(RING, [0, 2], whole), [row(5, 1), row(5, 4)])
        self.assertEqual(seen(RING, [1], whole), [row(5, 2, 3)])
        self.assertEqual(seen(RING, [0, 1, 2], whole), whole)
        chance = new_chance(205)
        for web in many_webs(205):
            whole = chance_whole(chance, web, 3)
            for places in rising_lists(len(web[1])):
                told = seen(web, places, whole)
                self.is_list_of_columns(told, view(web, places)[1])
                self.assertEqual(told, [whole[place] for place in places])

    def test_a_section_seen_agrees(self):
        chance = new_chance(206)
        for web in [RING] + list(many_webs(206)):
            whole = chance_section(chance, web)
            for places in rising_lists(len(web[1])):
                self.assertIs(agrees(view(web, places), seen(web, places, whole)), True)

    def test_bad_lists_ahead_of_no_assignment(self):
        for web in (RING, SAME, (0, (0,), ())):
            for places in bad_lists(len(web[1])):
                for whole in ([noughts(room) for room in web[1]], [], [(ONE,) * 4] * 8):
                    self.refuses(BadView, seen, web, places, whole)
            for whole in bad_wholes(web):
                self.refuses(BadWhole, seen, web, [0], whole)
                self.refuses(BadWhole, seen, web, list(range(len(web[1]))), whole)

    def test_a_column_that_is_not_seen_is_looked_at_too(self):
        self.refuses(BadWhole, seen, SAME, [0], [(ONE,), (ONE,), ((2, 2),)])
        self.refuses(BadWhole, seen, SAME, [2], [(ONE, ONE), (ONE,), (ONE,)])

    def test_webs_that_are_none(self):
        for places, whole in (([0], [(ONE,), (ONE, ONE)]), ([], []), ([0], [])):
            hold_web_refusals(self, seen, places, whole)


class Covers(Case):
    def test_told_truths(self):
        for one, other, told in (
            ([0, 1], [1, 2], False), ([0, 1, 2], [0], True), ([0], [0, 1, 2], True), ([0, 1], [0, 1], False),
            ([0], [1], False), ([0], [1, 2], False), ([0, 1, 2], [0, 1, 2], True),
        ):
            self.assertIs(covers(RING, one, other), told)
        self.assertIs(covers(SAME, [0, 1], [1, 2]), True)
        self.assertIs(covers(SAME, [1, 2], [0, 1]), True)
        # A place or a tie in neither.
        self.assertIs(covers(SAME, [0, 1], [1]), False)
        self.assertIs(covers(SAME, [0, 1], [2]), False)
        self.assertIs(covers(SAME, [0, 2], [1, 2]), False)
        self.assertIs(covers((0, (1, 1), ()), [0], [1]), True)
        self.assertIs(covers((0, (1, 1), ((1, 1, 0, (), ()),)), [0], [1]), True)
        # A tie without rows must be in one of them too.
        self.assertIs(covers((0, (1, 1), ((1, 0, 0, (), ()),)), [0], [1]), False)

    def test_all_pairs_of_lists(self):
        truths = []
        for web in [RING, SAME] + list(many_webs(207)):
            for one in rising_lists(len(web[1])):
                for other in rising_lists(len(web[1])):
                    truths.append(covers(web, one, other))
                    self.assertIs(truths[-1], told_covers(web, one, other))
        self.assertGreater(truths.count(True), 300)
        self.assertGreater(truths.count(False), 300)

    def test_lists_that_are_none(self):
        for web in (RING, SAME, (0, (0,), ())):
            everywhere = list(range(len(web[1])))
            for places in bad_lists(len(web[1])):
                for call in (covers, joining):
                    self.refuses(BadView, call, web, places, everywhere)
                    self.refuses(BadView, call, web, everywhere, places)
                    self.refuses(BadView, call, web, places, places)

    def test_webs_that_are_none(self):
        for one, other in (([0], [0, 1]), ([], [0]), ([0], []), ([0], [1])):
            hold_web_refusals(self, covers, one, other)


class Glued(Case):
    def test_told_sections(self):
        left, right = [row(0, 3), row(0, 3)], [row(0, 3), row(0, 3)]
        self.assertEqual(glued(SAME, [0, 1], [1, 2], left, right), [row(0, 3)] * 3)
        web = (0, (1, 2), ())
        self.assertEqual(glued(web, [1], [0], [row(0, 4, 5)], [row(0, 3)]), [row(0, 3), row(0, 4, 5)])
        self.assertEqual(glued((0, (0,), ()), [0], [0], [()], [()]), [()])

    def test_halves_of_a_section_come_together_to_it(self):
        chance = new_chance(208)
        for web in [RING, SAME] + list(many_webs(208)):
            for _ in range(4):
                one, other = chance_cover(chance, web)
                whole = chance_section(chance, web, 2)
                left, right = seen(web, one, whole), seen(web, other, whole)
                told = glued(web, one, other, left, right)
                self.is_list_of_columns(told, web[1])
                self.assertEqual(told, whole)

    def test_all_halves_of_small_webs(self):
        counts = {}
        chance = new_chance(209)
        for web in small_webs(209, (2,)):
            one, other = chance_cover(chance, web)
            views = view(web, one), view(web, other)
            for left in every_columns(2, views[0][1]):
                for right in every_columns(2, views[1][1]):
                    told = self.hold_halves(web, (one, other), (left, right), views)
                    counts[told] = counts.get(told, 0) + 1
        self.assertEqual(sorted(counts), ["agrees", "none", "unlike"])
        self.assertGreater(min(counts.values()), 20)

    def hold_halves(self, web, lists, halves, views):
        (one, other), (left, right) = lists, halves
        differing = [place for place in one if place in other and left[one.index(place)] != right[other.index(place)]]
        if differing:
            self.refuses(Unlike, glued, web, one, other, left, right, place=differing[0])
            return "unlike"
        if not (agreeing(views[0], left) and agreeing(views[1], right)):
            self.refuses(NoSection, glued, web, one, other, left, right)
            return "none"
        told = glued(web, one, other, left, right)
        self.assertTrue(agreeing(web, told))
        self.assertEqual((seen(web, one, told), seen(web, other, told)), (left, right))
        return "agrees"

    def test_the_first_place_at_which_they_are_unlike(self):
        web = (7, (1, 0, 1, 1, 1), ())
        one, other = [0, 1, 2, 4], [1, 2, 3, 4]
        left = [row(7, 1), (), row(7, 2), row(7, 3)]
        right = [(), row(7, 2), row(7, 5), row(7, 3)]
        self.assertEqual(glued(web, one, other, left, right), [row(7, 1), (), row(7, 2), row(7, 5), row(7, 3)])
        for bent, place in (
            ([(), row(7, 6), row(7, 5), row(7, 3)], 2), ([(), row(7, 2), row(7, 5), row(7, 4)], 4),
            ([(), row(7, 0), row(7, 5), row(7, 4)], 2),
        ):
            self.refuses(Unlike, glued, web, one, other, left, bent, place=place)
            self.refuses(Unlike, glued, web, other, one, bent, left, place=place)
        # The place is the web's, not one of the views' own numbers.
        self.refuses(Unlike, glued, web, [0, 1, 2, 3, 4], [4], [row(7, 1), ()] + [row(7, 2)] * 3, [row(7, 3)], place=4)

    def test_unlike_ahead_of_no_section(self):
        good, bent = [row(0, 3), row(0, 3)], [row(0, 3), row(0, 4)]
        self.refuses(Unlike, glued, SAME, [0, 1], [1, 2], bent, good, place=1)
        self.refuses(Unlike, glued, SAME, [0, 1], [1, 2], good, [row(0, 4), row(0, 3)], place=1)
        self.refuses(NoSection, glued, SAME, [0, 1], [1, 2], good, bent)
        self.refuses(NoSection, glued, SAME, [0, 1], [1, 2], [row(0, 4), row(0, 3)], good)
        self.refuses(NoSection, glued, SAME, [0, 1], [1, 2], [row(0, 4), row(0, 3)], bent)
        # Where a view has more than what both have, it must agree there too.
        self.refuses(NoSection, glued, SAME, [0, 1, 2], [0], [row(0, 3), row(0, 3), row(0, 4)], [row(0, 3)])

    def test_no_assignment_ahead_of_unlike(self):
        good = [row(0, 3), row(0, 3)]
        views = (view(SAME, [0, 1]), view(SAME, [1, 2]))
        for bad in bad_wholes(views[0]):
            for right in (good, [row(0, 4), row(0, 3)], [row(0, 4), row(0, 5)], []):
                self.refuses(BadWhole, glued, SAME, [0, 1], [1, 2], bad, right)
        for bad in bad_wholes(views[1]):
            for left in (good, [row(0, 4), row(0, 3)], [row(0, 3), row(0, 4)], []):
                self.refuses(BadWhole, glued, SAME, [0, 1], [1, 2], left, bad)
        # Each of its own view, not of the other one or of the web.
        web = (0, (1, 2), ())
        self.refuses(BadWhole, glued, web, [0], [1], [row(0, 1, 2)], [row(0, 3)])
        self.refuses(BadWhole, glued, web, [0], [1], [row(0, 1), row(0, 1, 2)], [row(0, 1), row(0, 1, 2)])

    def test_bad_lists_ahead_of_no_assignment(self):
        everywhere, whole = [0, 1, 2], [row(0, 3)] * 3
        for places in bad_lists(3):
            for half in (whole, [], [row(0, 1, 2)]):
                self.refuses(BadView, glued, SAME, places, everywhere, half, whole)
                self.refuses(BadView, glued, SAME, everywhere, places, whole, half)
        for one, other in (([0, 1], [1]), ([0, 1], [2]), ([0], [1, 2]), ([0, 2], [1, 2]), ([0, 2], [0, 1])):
            for half in ([row(0, 3)] * 2, [], [row(0, 1, 2)]):
                self.refuses(BadView, glued, SAME, one, other, half, half)

    def test_no_place_in_common(self):
        chance = new_chance(210)
        web = (0, (1, 2, 1, 0), ((0, 2, 1, unit(1), table(0, (2,))), (1, 1, 1, table(0, (1, 0)), table(0, (0, 1)))))
        for _ in range(5):
            whole = chance_section(chance, web)
            left, right = seen(web, [0, 2], whole), seen(web, [1, 3], whole)
            self.assertEqual(glued(web, [0, 2], [1, 3], left, right), whole)
        self.refuses(NoSection, glued, web, [0, 2], [1, 3], [row(0, 2), row(0, 2)], [row(0, 1, 1), ()])
        self.refuses(NoSection, glued, web, [0, 2], [1, 3], [row(0, 2), row(0, 1)], [row(0, 1, 2), ()])

    def test_numbers_have_no_bounds(self):
        far = (number(0, 10 ** 3999 + 1, 7 ** 4000),)
        self.assertEqual(glued(SAME, [0, 1], [1, 2], [far, far], [far, far]), [far] * 3)

    def test_webs_that_are_none(self):
        for behind in (([0], [0, 1], [(ONE,)], [(ONE,), (ONE, ONE)]), ([], [0], [], []), ([0], [1], [], [(NOUGHT,)])):
            hold_web_refusals(self, glued, *behind)


class Joining(Case):
    def hold(self, web, one, other):
        told = joining(web, one, other)
        self.assertIs(told.__class__, list)
        common = [place for place in one if place in other]
        webs = [web, view(web, one), view(web, other), view(web, common)]
        frees, gaps = [free(part) for part in webs], [gap(part) for part in webs]
        self.assertEqual(
            told, [frees[0], frees[1] + frees[2], frees[3], gaps[0], gaps[1] + gaps[2], gaps[3]]
        )
        self.assertEqual(told[0] - told[1] + told[2] - told[3] + told[4] - told[5], 0)
        ranks = [plain_rank(part[0], great_rows(part)) for part in webs]
        self.assertEqual(told[0], sum(web[1]) - ranks[0])
        self.assertEqual(told[2], sum(webs[3][1]) - ranks[3])
        return told

    def test_told_rows(self):
        self.assertEqual(joining(SAME, [0, 1], [1, 2]), [1, 2, 1, 0, 0, 0])
        self.assertEqual(joining(SAME, [0, 1, 2], [1]), [1, 2, 1, 0, 0, 0])
        self.assertEqual(joining((0, (0,), ()), [0], [0]), [0, 0, 0, 0, 0, 0])
        # Two ways round a ring: nothing is free and nothing barred, or both once.
        for factor, counts in ((2, [0, 2, 2, 0, 0, 0]), (1, [1, 2, 2, 1, 0, 0])):
            ties = [(at, (at + 1) % 4, 1, unit(1), unit(1)) for at in range(3)]
            ties.append((3, 0, 1, unit(1), table(0, (factor,))))
            self.assertEqual(joining((0, (1,) * 4, tuple(ties)), [0, 1, 2], [0, 2, 3]), counts)

    def test_against_the_counts_of_the_views(self):
        chance = new_chance(211)
        held = 0
        for web in [RING, SAME] + list(many_webs(211)):
            for _ in range(4):
                one, other = chance_cover(chance, web)
                if set(one) & set(other):
                    self.hold(web, one, other)
                    held += 1
            everywhere = list(range(len(web[1])))
            self.hold(web, everywhere, everywhere)
            self.hold(web, everywhere, [len(web[1]) - 1])
        self.assertGreater(held, 100)

    def test_a_web_in_pieces(self):
        web = (3, (1, 1, 1, 2), ((0, 2, 1, unit(1), unit(1)), (1, 1, 1, unit(1), table(3, (2,)))))
        self.assertEqual(self.hold(web, [0, 1, 2], [1, 3]), [3, 3, 0, 0, 0, 0])
        self.assertEqual(self.hold(web, [0, 2, 3], [0, 1]), [3, 4, 1, 0, 0, 0])

    def test_lists_that_do_not_cover_or_have_no_place_in_common(self):
        for one, other in (([0, 1], [1]), ([0, 1], [2]), ([0], [1, 2]), ([0, 2], [1, 2]), ([0], [0])):
            self.refuses(BadView, joining, SAME, one, other)
        web = (0, (1, 1, 0), ((0, 1, 1, unit(1), unit(1)),))
        self.assertIs(covers(web, [0, 1], [2]), True)
        self.refuses(BadView, joining, web, [0, 1], [2])
        self.refuses(BadView, joining, web, [2], [0, 1])

    def test_webs_that_are_none(self):
        for one, other in (([0], [0, 1]), ([], [0]), ([0], []), ([0], [1])):
            hold_web_refusals(self, joining, one, other)


class Widest(Case):
    def test_eight_places_and_twelve_ties_of_room_three(self):
        chance = new_chance(212)
        start = time.perf_counter()
        for field in SOME_FIELDS:
            for web in (widest_web(chance, field), wide_even_web(field)):
                for _ in range(3):
                    one, other = chance_cover(chance, web)
                    one = sorted(set(one) | {other[0]})
                    self.assertIs(covers(web, one, other), True)
                    joining(web, one, other)
                    whole = chance_section(chance, web, 2)
                    told = glued(web, one, other, seen(web, one, whole), seen(web, other, whole))
                    self.assertEqual(told, whole)
        self.assertLess(time.perf_counter() - start, 20)


class HandedInAndTold(Case):
    def test_what_was_handed_in_stays_as_it_was(self):
        whole, half = [row(0, 3)] * 3, [row(0, 3)] * 2
        self.stays_as_it_was(view, SAME, [0, 2])
        self.stays_as_it_was(view, SAME, [2, 0, 0])
        self.stays_as_it_was(seen, SAME, [0, 2], whole)
        self.stays_as_it_was(covers, SAME, [0, 1], [1, 2])
        self.stays_as_it_was(joining, SAME, [0, 1], [1, 2])
        self.stays_as_it_was(glued, SAME, [0, 1], [1, 2], half, half)
        self.stays_as_it_was(glued, SAME, [0, 1], [1, 2], half, [row(0, 4)] * 2)
        self.stays_as_it_was(glued, SAME, [0, 1], [1, 2], half, [row(0, 3), row(0, 4)])

    def test_changing_a_told_list_changes_no_later_answer(self):
        whole, half = [row(0, 3)] * 3, [row(0, 3)] * 2
        self.answers_stay(
            lambda: seen(SAME, [0, 1], whole), lambda: seen(SAME, [0, 1, 2], whole),
            lambda: glued(SAME, [0, 1], [1, 2], half, half), lambda: glued(SAME, [0, 1, 2], [1], whole, half[:1]),
            lambda: joining(SAME, [0, 1], [1, 2]),
        )
        self.assertEqual((whole, half), ([row(0, 3)] * 3, [row(0, 3)] * 2))

    def test_columns_told_are_of_chance_webs_too(self):
        chance = new_chance(213)
        for field in SOME_FIELDS:
            web = chance_web(chance, field, [2, 3, 1], 3)
            whole = chance_whole(chance, web)
            told = seen(web, [0, 1, 2], whole)
            told[0] = None
            self.assertEqual(seen(web, [0], whole), whole[:1])

    def test_by_name(self):
        whole, half = [row(0, 3)] * 3, [row(0, 3)] * 2
        self.assertEqual(view(places=[0], web=SAME), (0, (1,), ()))
        self.assertEqual(seen(whole=whole, places=[0, 1], web=SAME), half)
        self.assertIs(covers(other=[1, 2], one=[0, 1], web=SAME), True)
        self.assertIs(covers(other=[1], one=[0, 1], web=SAME), False)
        self.assertEqual(glued(right=half, left=half, other=[1, 2], one=[0, 1], web=SAME), whole)
        self.assertEqual(glued(right=half[:1], left=whole, other=[1], one=[0, 1, 2], web=SAME), whole)
        self.assertEqual(joining(other=[1, 2], one=[0, 1], web=SAME), [1, 2, 1, 0, 0, 0])


if __name__ == "__main__":
    unittest.main()
