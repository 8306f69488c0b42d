import time
import unittest

from helpers import (
    BAD_FIELDS, NOUGHT, ONE, SOME_FIELDS, Case, agreeing, bad_numbers, bad_webs, bad_wholes, chance_number,
    chance_section, chance_stiff_table, chance_table, chance_web, chance_whole, dot, hold_web_refusals, led, many_webs,
    new_chance, noughts, number, row, table, turned, unit, wide_even_web, widest_web,
)
from stalkweb.errors import BadField, BadNumber, BadShape, BadWeb, BadWhole, NoMap
from stalkweb.maps import both, is_map, mapped
from stalkweb.tables import behind, turned_back
from stalkweb.webs import agrees, is_web

# Along the tie the second place has twice the first one's number, in the other web three times the half of it.
DOUBLE = (0, (1, 1), ((0, 1, 1, table(0, (2,)), unit(1)),))
HALVES = (0, (1, 1), ((0, 1, 1, table(0, (3,)), table(0, (2,))),))
# So the second place's number is led on by three quarters of what the first one's is led on by.
QUARTERS = [table(0, (4,)), table(0, (3,))]
ACROSS = [table(0, (6,))]


def times_unit(pair, room):
    """The table that leads each column to a multiple of it."""
    return tuple(tuple(pair if at == place else NOUGHT for at in range(room)) for place in range(room))


def multiples(web, pair):
    """The map from a web to itself that leads each assignment to a multiple."""
    return [times_unit(pair, room) for room in web[1]], [times_unit(pair, tie[2]) for tie in web[2]]


def nothing(web, other):
    """The map that leads all to nought."""
    tables = [(noughts(length),) * room for length, room in zip(web[1], other[1])]
    return tables, [(noughts(tie[2]),) * there[2] for tie, there in zip(web[2], other[2])]


def product(field, table_there, table_here, length):
    """First the latter table, then the former one, by a way of its own."""
    columns = turned(table_here, length)
    return tuple(led(field, columns, line) for line in table_there)


def blocks(one, other, length, length_other):
    """Two tables side by side, each with its own rows and columns."""
    return tuple(line + noughts(length_other) for line in one) + tuple(noughts(length) + line for line in other)


def beside(web, other):
    """Both webs at once: at each place and each tie both rooms one behind the other."""
    field, sizes, ties = web
    found = []
    for (one, end, room, first, second), (_, _, room_there, first_there, second_there) in zip(ties, other[2]):
        tables = [
            blocks(table_here, table_there, sizes[place], other[1][place])
            for place, table_here, table_there in ((one, first, first_there), (end, second, second_there))
        ]
        found.append((one, end, room + room_there, *tables))
    return (field, tuple(room + room_there for room, room_there in zip(sizes, other[1])), tuple(found))


def into_first(room, more):
    """The table that puts a column ahead of noughts."""
    return unit(room) + (noughts(room),) * more


def off_second(room, more):
    """The table that leaves the numbers behind off."""
    return tuple(line + noughts(more) for line in unit(room))


def over_both(web, other, make):
    """Tables made of the rooms of two webs at each place, and at each tie."""
    tables = [make(room, more) for room, more in zip(web[1], other[1])]
    return tables, [make(tie[2], there[2]) for tie, there in zip(web[2], other[2])]


def like_web(chance, web, rooms, tie_rooms):
    """A web with the same places and ties, of other rooms."""
    sizes, ties = tuple(chance.choice(rooms) for _ in web[1]), []
    for one, other, room, first, second in web[2]:
        room = chance.choice(tie_rooms)
        tables = [chance_table(chance, web[0], room, sizes[place]) for place in (one, other)]
        ties.append((one, other, room, *tables))
    return (web[0], sizes, tuple(ties))


def pairs_of_webs(seed):
    """Webs of the same places and ties, small enough to stand beside one another."""
    chance = new_chance(seed)
    for field in SOME_FIELDS:
        for count in (1, 2, 3, 4):
            web = chance_web(chance, field, [chance.choice((0, 1, 1, 2)) for _ in range(count)], count + 1, (0, 1, 2))
            yield web, like_web(chance, web, (0, 1), (0, 1))


def led_on(chance, web):
    """A web by a prime to which there is a map that turns back, and the map."""
    field, sizes, ties = web
    tables = [chance_stiff_table(chance, field, room) for room in sizes]
    tie_tables = [chance_stiff_table(chance, field, tie[2]) for tie in ties]
    backs = [turned_back(field, found) for found in tables]
    found = []
    for (one, other, room, first, second), across in zip(ties, tie_tables):
        ends = []
        for place, lines in ((one, first), (other, second)):
            there = product(field, across, lines, sizes[place])
            ends.append(product(field, there, backs[place], sizes[place]))
        found.append((one, other, room, *ends))
    return (field, sizes, tuple(found)), tables, tie_tables


def bent(tables, at, line, place, pair):
    """The tables with another number at one place."""
    lines = [list(numbers) for numbers in tables[at]]
    lines[line][place] = pair
    return tables[:at] + [tuple(tuple(numbers) for numbers in lines)] + tables[at + 1:]


def positions(tables):
    return [
        (at, line, place) for at, lines in enumerate(tables)
        for line, numbers in enumerate(lines) for place in range(len(numbers))
    ]


def goes_both_ways(web, other, tables, tie_tables):
    """Whether tables of the right rooms lead each column alike on both ways, by a way of its own."""
    field, sizes, ties = web
    for tie, there, across in zip(ties, other[2], tie_tables):
        for end in (0, 1):
            for column in unit(sizes[tie[end]]):
                one_way = led(field, across, led(field, tie[3 + end], column))
                if one_way != led(field, there[3 + end], led(field, tables[tie[end]], column)):
                    return False
    return True


def some_maps(seed):
    """Webs, other webs, and maps between them of all sorts."""
    chance = new_chance(seed)
    yield DOUBLE, HALVES, QUARTERS, ACROSS
    yield (0, (0,), ()), (0, (3,), ()), [((), (), ())], []
    for web in many_webs(seed):
        yield (web, web, *multiples(web, chance_number(chance, web[0])))
        if web[0]:
            other, tables, tie_tables = led_on(chance, web)
            yield web, other, tables, tie_tables
    for web, other in pairs_of_webs(seed):
        yield (web, other, *nothing(web, other))
        yield (web, beside(web, other), *over_both(web, other, into_first))
        yield (beside(web, other), web, *over_both(web, other, off_second))


class IsMap(Case):
    def test_told_truths(self):
        self.assertIs(is_map(DOUBLE, HALVES, QUARTERS, ACROSS), True)
        self.assertIs(is_map(DOUBLE, HALVES, QUARTERS, [table(0, (5,))]), False)
        self.assertIs(is_map(DOUBLE, HALVES, QUARTERS[::-1], ACROSS), False)
        self.assertIs(is_map(HALVES, DOUBLE, QUARTERS, ACROSS), False)
        self.assertIs(is_map(DOUBLE, DOUBLE, [unit(1)] * 2, [unit(1)]), True)
        self.assertIs(is_map((7, (0,), ()), (7, (0,), ()), [()], []), True)
        self.assertIs(is_map((7, (2,), ()), (7, (0,), ()), [()], []), True)
        self.assertIs(is_map((7, (0,), ()), (7, (2,), ()), [((), ())], []), True)

    def test_maps_of_all_sorts(self):
        count = 0
        for web, other, tables, tie_tables in some_maps(241):
            self.assertTrue(goes_both_ways(web, other, tables, tie_tables))
            self.assertIs(is_map(web, other, tables, tie_tables), True)
            count += 1
        self.assertGreater(count, 200)

    def test_bent_at_one_number(self):
        chance = new_chance(242)
        truths = []
        for web, other, tables, tie_tables in some_maps(242):
            for at, line, place in positions(tables)[:6]:
                pair = chance_number(chance, web[0])
                given = bent(tables, at, line, place, pair), tie_tables
                truths.append(is_map(web, other, *given))
                self.assertIs(truths[-1], goes_both_ways(web, other, *given))
            for at, line, place in positions(tie_tables)[:6]:
                pair = chance_number(chance, web[0])
                given = tables, bent(tie_tables, at, line, place, pair)
                truths.append(is_map(web, other, *given))
                self.assertIs(truths[-1], goes_both_ways(web, other, *given))
        self.assertGreater(truths.count(True), 50)
        self.assertGreater(truths.count(False), 200)

    def test_either_end_of_a_tie_counts(self):
        web = (5, (1, 1), ((0, 1, 1, unit(1), unit(1)),))
        for first, second, told in ((1, 1, True), (2, 1, False), (1, 2, False), (2, 2, False)):
            other = (5, (1, 1), ((0, 1, 1, table(5, (first,)), table(5, (second,))),))
            self.assertIs(is_map(web, other, [unit(1)] * 2, [unit(1)]), told)
        # And both ends of a tie of one place with itself, and each tie.
        for first, second, told in ((1, 1, True), (2, 1, False), (1, 2, False)):
            loop = (0, 0, 1, table(5, (first,)), table(5, (second,)))
            for ties in ((loop,), (loop, (0, 0, 1, unit(1), unit(1))), ((0, 0, 1, unit(1), unit(1)), loop)):
                still = (5, (1,), ((0, 0, 1, unit(1), unit(1)),) * len(ties))
                self.assertIs(is_map(still, (5, (1,), ties), [unit(1)], [unit(1)] * len(ties)), told)

    def test_noughts_are_a_map(self):
        for web, other in pairs_of_webs(243):
            self.assertIs(is_map(web, other, *nothing(web, other)), True)

    def test_tables_times_a_great_or_a_small_number(self):
        for factor in ((10 ** 3999, 1), (1, 10 ** 3999), (-(10 ** 3999) - 1, 7 ** 4000), NOUGHT, (-1, 1)):
            tables = [((number(0, 4 * factor[0], factor[1]),),), ((number(0, 3 * factor[0], factor[1]),),)]
            across = [((number(0, 6 * factor[0], factor[1]),),)]
            self.assertIs(is_map(DOUBLE, HALVES, tables, across), True)
            if factor != NOUGHT:
                self.assertIs(is_map(DOUBLE, HALVES, tables, ACROSS), False)
            self.assertEqual(mapped(DOUBLE, HALVES, tables, across, [row(0, 1), row(0, 2)]), [
                (tables[0][0][0],), (number(0, 6 * factor[0], factor[1]),),
            ])

    def test_tables_too_many_and_too_few(self):
        for web, other, tables, tie_tables in some_maps(244):
            for some, more in (
                (tables[:-1], tie_tables), (tables + [()], tie_tables), (tables + tables[:1], tie_tables),
                ([], tie_tables), (tables, tie_tables + [()]), (tables, tie_tables + [((ONE,),)]),
            ):
                self.assertIs(is_map(web, other, some, more), False)
            if tie_tables:
                self.assertIs(is_map(web, other, tables, tie_tables[:-1]), False)
                self.assertIs(is_map(web, other, tables, []), False)

    def test_tables_of_another_room(self):
        for web, other, tables, tie_tables in some_maps(245):
            for given, which in ((tables, 0), (tie_tables, 1)):
                for at, lines in enumerate(given):
                    length = len(lines[0]) if lines else 2
                    others = [lines + (noughts(length),), tuple(line + (NOUGHT,) for line in lines) + ((NOUGHT,) * 4,)]
                    if lines:
                        others += [lines[:-1], lines[:-1] + (lines[-1] + (NOUGHT,),), lines[:-1] + ((NOUGHT,) * 5,)]
                    for bad in others:
                        worse = given[:at] + [bad] + given[at + 1:]
                        both_kinds = (worse, tie_tables) if which == 0 else (tables, worse)
                        self.assertIs(is_map(web, other, *both_kinds), False)
        web, other = (3, (2,), ()), (3, (1,), ())
        self.assertIs(is_map(web, other, [table(3, (1, 2))], []), True)
        self.assertIs(is_map(web, other, [table(3, (1,), (2,))], []), False)
        self.assertIs(is_map(other, web, [table(3, (1, 2))], []), False)
        self.assertIs(is_map(web, (3, (0,), ()), [((), ())], []), False)

    def test_numbers_that_are_none(self):
        for web, other, tables, tie_tables in some_maps(246):
            for bad in bad_numbers(web[0]):
                for at, line, place in positions(tables)[:2]:
                    self.assertIs(is_map(web, other, bent(tables, at, line, place, bad), tie_tables), False)
                for at, line, place in positions(tie_tables)[-2:]:
                    self.assertIs(is_map(web, other, tables, bent(tie_tables, at, line, place, bad)), False)

    def test_webs_that_are_unlike(self):
        tie = (0, 1, 1, unit(1), unit(1))
        web, tables, tie_tables = (5, (1, 1), (tie,)), [unit(1)] * 2, [unit(1)]
        self.assertIs(is_map(web, web, tables, tie_tables), True)
        for other in (
            (7, (1, 1), (tie,)), (0, (1, 1), (tie,)), (5, (1, 1, 0), (tie,)), (5, (1, 1, 1), (tie,)), (5, (1, 1), ()),
            (5, (1, 1), (tie, tie)), (5, (1, 1), ((1, 0) + tie[2:],)), (5, (1, 1), ((0, 0) + tie[2:],)),
            (5, (1, 1), ((1, 1) + tie[2:],)),
        ):
            for some in (tables, tables + [unit(1)], tables + [()]):
                for more in (tie_tables, [], tie_tables * 2):
                    self.assertIs(is_map(web, other, some, more), False)
                    self.assertIs(is_map(other, web, some, more), False)
        # The ties stand in another order.
        ties = (tie, (1, 1, 1, unit(1), unit(1)))
        self.assertIs(is_map((5, (1, 1), ties), (5, (1, 1), ties[::-1]), tables, tie_tables * 2), False)
        self.assertIs(is_map((5, (1, 1), ties), (5, (1, 1), ties), tables, tie_tables * 2), True)

    def test_webs_that_are_none(self):
        good, tables, tie_tables = (5, (1,), ()), [unit(1)], []
        for call, behind_all in ((is_map, ()), (mapped, ([],))):
            for given in ((tables, tie_tables), ([], [((),)])):
                hold_web_refusals(self, call, good, *given, *behind_all)
                for web in bad_webs(5):
                    self.refuses(BadWeb, call, good, web, *given, *behind_all)
                for field in BAD_FIELDS:
                    self.refuses(BadField, call, good, (field, (1,), ()), *given, *behind_all)
                    # The first one is looked at whole ahead of the second one.
                    self.refuses(BadWeb, call, (5, (4,), ()), (field, (1,), ()), *given, *behind_all)
                    self.refuses(BadField, call, (field, (4,), ()), (5, (4,), ()), *given, *behind_all)


class Mapped(Case):
    def test_told_assignments(self):
        self.assertEqual(mapped(DOUBLE, HALVES, QUARTERS, ACROSS, [row(0, 1), row(0, 2)]), [row(0, 4), row(0, 6)])
        self.assertEqual(mapped(DOUBLE, HALVES, QUARTERS, ACROSS, [row(0, 1), row(0, 1)]), [row(0, 4), row(0, 3)])
        self.assertEqual(mapped((7, (2,), ()), (7, (0,), ()), [()], [], [row(7, 1, 2)]), [()])
        self.assertEqual(mapped((7, (0,), ()), (7, (2,), ()), [((), ())], [], [()]), [noughts(2)])

    def test_sections_to_sections(self):
        chance = new_chance(247)
        for web, other, tables, tie_tables in some_maps(247):
            self.assertIs(is_web(other), True)
            whole = chance_section(chance, web, 2)
            told = mapped(web, other, tables, tie_tables, whole)
            self.is_list_of_columns(told, other[1])
            self.assertTrue(agreeing(other, told))
            self.assertIs(agrees(other, told), True)

    def test_any_assignment_column_by_column(self):
        chance = new_chance(248)
        for web, other, tables, tie_tables in some_maps(248):
            whole = chance_whole(chance, web, 3)
            told = mapped(web, other, tables, tie_tables, whole)
            self.assertEqual(told, [led(web[0], lines, column) for lines, column in zip(tables, whole)])

    def test_no_map_ahead_of_no_assignment(self):
        wholes = ([row(0, 1), row(0, 2)], [], [row(0, 1)], [((2, 2),), (ONE,)])
        for tables, tie_tables in (
            (QUARTERS, [table(0, (5,))]), (QUARTERS[::-1], ACROSS), (QUARTERS[:1], ACROSS), (QUARTERS, []),
            ([((4, 2),), table(0, (3,))], ACROSS), ([(((4, 2),),), table(0, (3,))], ACROSS), ([(), ()], ACROSS),
        ):
            for whole in wholes:
                self.refuses(NoMap, mapped, DOUBLE, HALVES, tables, tie_tables, whole)
        for other in ((7, (1, 1), ((0, 1, 1, unit(1), unit(1)),)), (0, (1, 1), ()), (0, (1,), ())):
            for whole in wholes:
                self.refuses(NoMap, mapped, DOUBLE, other, QUARTERS, ACROSS, whole)

    def test_no_assignment_of_the_first_web(self):
        for bad in bad_wholes(DOUBLE):
            self.refuses(BadWhole, mapped, DOUBLE, HALVES, QUARTERS, ACROSS, bad)
        web, other = (3, (2,), ()), (3, (1,), ())
        self.assertEqual(mapped(web, other, [table(3, (1, 2))], [], [row(3, 1, 1)]), [row(3, 0)])
        self.refuses(BadWhole, mapped, web, other, [table(3, (1, 2))], [], [row(3, 1)])

    def test_eight_places_and_twelve_ties_of_room_three(self):
        chance = new_chance(249)
        start = time.perf_counter()
        for field in SOME_FIELDS:
            for web in (widest_web(chance, field), wide_even_web(field)):
                tables, tie_tables = multiples(web, chance_number(chance, field, 3))
                self.assertIs(is_map(web, web, tables, tie_tables), True)
                mapped(web, web, tables, tie_tables, chance_whole(chance, web, 2))
        self.assertLess(time.perf_counter() - start, 20)


class Both(Case):
    def test_told_tables(self):
        self.assertEqual(both(0, [], []), [])
        self.assertEqual(both(0, QUARTERS, QUARTERS), [table(0, (16,)), table(0, (9,))])
        one, other = table(7, (1, 2), (3, 4)), table(7, (0, 1), (1, 0))
        # First the one's, then the other's.
        self.assertEqual(both(7, [one, other], [other, one]), [table(7, (3, 4), (1, 2)), table(7, (2, 1), (4, 3))])
        self.assertEqual(both(7, [()], [()]), [()])
        # Rows as long as the first table's, and none where the second one has none.
        self.assertEqual(both(7, [((), ()), one], [one, ()]), [((), ()), ()])

    def test_one_map_and_then_another_is_the_map_of_both(self):
        chance = new_chance(250)
        for web in many_webs(250):
            if web[0]:
                middle, tables, tie_tables = led_on(chance, web)
                last, tables_on, tie_tables_on = led_on(chance, middle)
                together = both(web[0], tables, tables_on), both(web[0], tie_tables, tie_tables_on)
                self.assertIs(is_map(web, last, *together), True)
                whole = chance_whole(chance, web)
                there = mapped(middle, last, tables_on, tie_tables_on, mapped(web, middle, tables, tie_tables, whole))
                self.assertEqual(mapped(web, last, *together, whole), there)

    def test_in_and_off_again(self):
        for web, other in pairs_of_webs(251):
            into, off = over_both(web, other, into_first), over_both(web, other, off_second)
            for one, back, rooms in ((into[0], off[0], web[1]), (into[1], off[1], [tie[2] for tie in web[2]])):
                self.assertEqual(both(web[0], one, back), [unit(room) for room in rooms])

    def test_pair_by_pair_as_behind(self):
        chance = new_chance(252)
        for field in SOME_FIELDS:
            for _ in range(20):
                one, other = [], []
                for _ in range(chance.randint(1, 5)):
                    length, room, last = (chance.randint(0, 4) for _ in range(3))
                    one.append(chance_table(chance, field, room, length))
                    other.append(chance_table(chance, field, last, room))
                told = both(field, one, other)
                self.assertIs(told.__class__, list)
                self.assertEqual(told, [behind(field, there, here) for here, there in zip(one, other)])
                for here, there, lines in zip(one, other, told):
                    for at, line in enumerate(lines):
                        self.assertEqual(line, tuple(
                            dot(field, there[at], column) for column in turned(here, len(here[0]) if here else 0)
                        ))

    def test_other_counts(self):
        for one, other in (([], [()]), ([()], []), (QUARTERS, QUARTERS[:1]), (QUARTERS, QUARTERS + [()])):
            self.refuses(BadShape, both, 0, one, other)
            self.refuses(BadShape, both, 0, other, one)
        # Ahead of what the pairs would be refused for.
        self.refuses(BadShape, both, 0, [(((2, 2),),)], [(((2, 2),),), ()])

    def test_shapes_and_numbers_pair_by_pair(self):
        bad_number, bad_shape = (((2, 2),),), ((ONE, ONE),)
        good = unit(1)
        for one, other, kind in (
            ([good], [bad_shape], BadShape), ([good], [bad_number], BadNumber), ([bad_number], [good], BadNumber),
            ([good, good], [bad_number, bad_shape], BadNumber), ([good, good], [bad_shape, bad_number], BadShape),
            ([bad_number, good], [good, bad_shape], BadNumber), ([good, bad_number], [bad_shape, good], BadShape),
            ([bad_number], [bad_shape], BadShape), ([good, ((ONE,), ())], [good, unit(2)], BadShape),
            ([good, good], [good, ((ONE,), ())], BadShape), ([bad_number], [()], BadNumber),
            ([()], [good], BadShape),
        ):
            self.refuses(kind, both, 0, one, other)
        for field in SOME_FIELDS:
            for bad in bad_numbers(field):
                self.refuses(BadNumber, both, field, [good, ((bad,),)], [good, good])
                self.refuses(BadNumber, both, field, [good, good], [good, ((bad,),)])
                self.refuses(BadNumber, both, field, [((bad,),)] * 2, [((bad,),)] * 2)

    def test_numbers_have_no_bounds(self):
        far = (10 ** 3999, 7 ** 4000)
        self.assertEqual(both(0, [((far,),)], [((far,),)]), [(((far[0] ** 2, far[1] ** 2),),)])

    def test_no_field(self):
        for field in BAD_FIELDS:
            for one, other in (([], []), ([()], []), ([(((2, 2),),)], [unit(2)])):
                self.refuses(BadField, both, field, one, other)


class HandedInAndTold(Case):
    def test_what_was_handed_in_stays_as_it_was(self):
        whole = [row(0, 1), row(0, 2)]
        for tables in (QUARTERS, QUARTERS[:1], []):
            self.stays_as_it_was(is_map, DOUBLE, HALVES, list(tables), list(ACROSS))
            self.stays_as_it_was(mapped, DOUBLE, HALVES, list(tables), list(ACROSS), whole)
            self.stays_as_it_was(both, 0, list(tables), list(QUARTERS))
        self.stays_as_it_was(mapped, DOUBLE, HALVES, list(QUARTERS), list(ACROSS), [])

    def test_changing_a_told_list_changes_no_later_answer(self):
        whole, tables, across = [row(0, 1), row(0, 2)], list(QUARTERS), list(ACROSS)
        self.answers_stay(
            lambda: mapped(DOUBLE, HALVES, tables, across, whole), lambda: both(0, tables, tables),
        )
        self.assertEqual((whole, tables, across), ([row(0, 1), row(0, 2)], QUARTERS, ACROSS))
        still = [unit(1)] * 2
        self.answers_stay(lambda: both(0, still, still), lambda: mapped(DOUBLE, DOUBLE, still, still[:1], whole))
        self.assertEqual((whole, still), ([row(0, 1), row(0, 2)], [unit(1)] * 2))

    def test_by_name(self):
        whole = [row(0, 1), row(0, 2)]
        self.assertIs(is_map(tie_tables=ACROSS, tables=QUARTERS, other=HALVES, web=DOUBLE), True)
        told = mapped(whole=whole, tie_tables=ACROSS, tables=QUARTERS, other=HALVES, web=DOUBLE)
        self.assertEqual(told, [row(0, 4), row(0, 6)])
        one, other = table(7, (1, 2), (3, 4)), table(7, (0, 1), (1, 0))
        self.assertEqual(both(other=[other], one=[one], field=7), [table(7, (3, 4), (1, 2))])


if __name__ == "__main__":
    unittest.main()
