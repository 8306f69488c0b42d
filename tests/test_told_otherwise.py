"""A web that is told otherwise: the counts stay as they were, and what they are made of goes along."""

import unittest

from helpers import (
    SOME_FIELDS, Case, chance_stiff_table, chance_web, chance_whole, led, many_webs, new_chance, plain_rank,
    rooms_of_ties, told_differences, turned,
)
from stalkweb.gaps import gap
from stalkweb.rings import pieces, wood
from stalkweb.sayings import goes_on
from stalkweb.webs import great_rows, is_web
from stalkweb.whole import count, free, sections


def ties_mixed(chance, web):
    ties = list(web[2])
    chance.shuffle(ties)
    return (web[0], web[1], tuple(ties))


def ties_turned_about(chance, web):
    ties = []
    for one, other, room, first, second in web[2]:
        about = chance.random() < 0.6
        ties.append((other, one, room, second, first) if about else (one, other, room, first, second))
    return (web[0], web[1], tuple(ties))


def places_anew(chance, web):
    """The web with its places in another order, and where each place went."""
    field, sizes, ties = web
    order = list(range(len(sizes)))
    chance.shuffle(order)
    moved = tuple((order[one], order[other], room, first, second) for one, other, room, first, second in ties)
    return (field, tuple(sizes[order.index(at)] for at in range(len(sizes))), moved), order


def first_then(field, table, other):
    """First other, which is square, then table."""
    columns = turned(other, len(other))
    return tuple(led(field, columns, line) for line in table)


def led_on(chance, web):
    """The web with a table that turns back behind each tie, and one ahead at each place; by a prime."""
    field, sizes, ties = web
    at_places = [chance_stiff_table(chance, field, room) for room in sizes]
    found = []
    for one, other, room, first, second in ties:
        behind = chance_stiff_table(chance, field, room)
        ends = []
        for table, place in ((first, one), (second, other)):
            bent = first_then(field, table, at_places[place])
            columns = turned(bent, sizes[place])
            lines = [led(field, behind, column) for column in columns]
            ends.append(tuple(tuple(column[line] for column in lines) for line in range(room)))
        found.append((one, other, room, ends[0], ends[1]))
    return (field, sizes, tuple(found))


class ToldOtherwise(Case):
    def same_counts(self, web, other):
        self.assertIs(is_web(other), True)
        self.assertEqual((free(other), gap(other)), (free(web), gap(web)))
        if web[0]:
            self.assertEqual(count(other), count(web))

    def test_ties_mixed(self):
        chance = new_chance(161)
        for web in many_webs(161):
            other = ties_mixed(chance, web)
            self.same_counts(web, other)
            self.assertEqual(sections(other), sections(web))
            self.assertEqual(pieces(other), pieces(web))
            self.assertEqual(len(wood(other)), len(wood(web)))

    def test_ties_turned_about(self):
        chance = new_chance(162)
        for web in many_webs(162):
            other = ties_turned_about(chance, web)
            self.same_counts(web, other)
            self.assertEqual(sections(other), sections(web))
            self.assertEqual((pieces(other), wood(other)), (pieces(web), wood(web)))

    def test_ties_told_twice(self):
        for web in many_webs(163):
            other = (web[0], web[1], web[2] + web[2])
            self.assertEqual(sections(other), sections(web))
            self.assertEqual(gap(other), gap(web) + sum(rooms_of_ties(web)))

    def test_places_numbered_anew(self):
        chance = new_chance(164)
        for web in many_webs(164):
            other, order = places_anew(chance, web)
            self.same_counts(web, other)
            whole = chance_whole(chance, web)
            moved = [whole[order.index(at)] for at in range(len(order))]
            self.assertEqual(told_differences(other, moved), told_differences(web, whole))
            for told in sections(web):
                sayings = [(at, told[order.index(at)]) for at in range(len(order))]
                self.assertIsNotNone(goes_on(other, sayings))
            self.assertEqual(sorted(map(len, pieces(other))), sorted(map(len, pieces(web))))
            self.assertEqual(len(wood(other)), len(wood(web)))

    def test_led_on_by_tables_that_turn_back(self):
        chance = new_chance(165)
        for web in many_webs(165):
            if web[0]:
                self.same_counts(web, led_on(chance, web))

    def test_whole_tables_by_primes_and_over_fractions(self):
        chance = new_chance(166)
        for _ in range(40):
            web = chance_web(chance, 2, [chance.randint(0, 3) for _ in range(3)], 3)
            over = (0, web[1], web[2])
            for prime in SOME_FIELDS[1:]:
                by = (prime, web[1], web[2])
                # What sums to nought over fractions does so by each prime, and never the other way about.
                self.assertGreaterEqual(free(by), free(over))
                self.assertEqual(free(by) - free(over), gap(by) - gap(over))
                self.assertEqual(free(by), sum(web[1]) - plain_rank(prime, great_rows(by)))
                self.assertEqual(free(by) - gap(by), sum(web[1]) - sum(rooms_of_ties(web)))

    def test_counts_by_fields_apart(self):
        ties = ((0, 1, 1, (((1, 1),),), (((1, 1),),)), (0, 1, 1, (((1, 1),),), (((4, 1),),)))
        told = [(free((field, (1, 1), ties)), gap((field, (1, 1), ties))) for field in (0, 5, 7)]
        self.assertEqual(told, [(0, 0), (0, 0), (0, 0)])
        ties = ((0, 1, 1, (((1, 1),),), (((2, 1),),)), (0, 1, 1, (((3, 1),),), (((1, 1),),)))
        told = [(free((field, (1, 1), ties)), gap((field, (1, 1), ties))) for field in (0, 5, 7)]
        self.assertEqual(told, [(0, 0), (1, 1), (0, 0)])


if __name__ == "__main__":
    unittest.main()
