import unittest

from helpers import Case, hold_web_refusals, many_webs, new_chance, table, unit
from stalkweb.errors import NoPlace, NoTie
from stalkweb.rings import pieces, ring, way, wood


def bare_web(places, *ends):
    """A web of rooms of 0: all that counts here is how the ties run."""
    return (0, (0,) * places, tuple((one, other, 0, (), ()) for one, other in ends))


def chance_bare_web(chance):
    places = chance.randint(1, 8)
    count = chance.randint(0, 12)
    return bare_web(places, *[(chance.randrange(places), chance.randrange(places)) for _ in range(count)])


def plain_pieces(web, ties):
    """The pieces by these ties alone, by a way of its own."""
    found = [{place} for place in range(len(web[1]))]
    for tie in ties:
        one, other = web[2][tie][:2]
        both = [piece for piece in found if one in piece or other in piece]
        found = [piece for piece in found if piece not in both] + [set().union(*both)]
    return sorted(sorted(piece) for piece in found)


def step_ends(web, step):
    tie, forth = step
    one, other = web[2][tie][:2]
    return (one, other) if forth else (other, one)


def some_webs():
    chance = new_chance(141)
    return list(many_webs(141)) + [chance_bare_web(chance) for _ in range(200)]


WEB = bare_web(6, (2, 4), (3, 1), (4, 4), (4, 0), (2, 0), (1, 3))
NO_NUMBERS = (-1, -6, 6, 7, 12, 10 ** 20, -(10 ** 20))


class Along(Case):
    def hold_steps(self, web, place, other, steps):
        """The steps are pairs that go from place to other, each from where the one ahead came to, no tie twice."""
        self.assertIs(steps.__class__, list)
        at = place
        for step in steps:
            self.assertIs(step.__class__, tuple)
            self.assertIs(step[1].__class__, bool)
            start, end = step_ends(web, step)
            self.assertEqual(start, at)
            at = end
        self.assertEqual(at, other)
        self.assertEqual(len({tie for tie, forth in steps}), len(steps))


class Pieces(Case):
    def test_told_pieces(self):
        self.assertEqual(pieces(WEB), [[0, 2, 4], [1, 3], [5]])
        self.assertEqual(pieces(bare_web(1)), [[0]])
        self.assertEqual(pieces(bare_web(3)), [[0], [1], [2]])
        self.assertEqual(pieces(bare_web(3, (1, 1), (2, 2))), [[0], [1], [2]])
        self.assertEqual(pieces(bare_web(4, (3, 2), (2, 1), (1, 0))), [[0, 1, 2, 3]])
        self.assertEqual(pieces(bare_web(5, (4, 3), (1, 4))), [[0], [1, 3, 4], [2]])

    def test_all_sorts_of_webs(self):
        for web in some_webs():
            told = pieces(web)
            self.assertIs(told.__class__, list)
            self.assertTrue(all(piece.__class__ is list for piece in told))
            self.assertEqual(told, plain_pieces(web, range(len(web[2]))))

    def test_webs_that_are_none(self):
        hold_web_refusals(self, pieces)


class Wood(Case):
    def test_told_woods(self):
        self.assertEqual(wood(WEB), [0, 1, 3])
        self.assertEqual(wood(bare_web(3)), [])
        self.assertEqual(wood(bare_web(2, (0, 0), (1, 1))), [])
        self.assertEqual(wood(bare_web(2, (0, 0), (1, 0), (0, 1))), [1])
        self.assertEqual(wood(bare_web(3, (0, 1), (1, 2), (2, 0))), [0, 1])
        self.assertEqual(wood(bare_web(3, (2, 0), (1, 2), (0, 1))), [0, 1])

    def test_all_sorts_of_webs(self):
        for web in some_webs():
            told = wood(web)
            self.assertIs(told.__class__, list)
            expected = [
                tie for tie in range(len(web[2]))
                if len(plain_pieces(web, range(tie + 1))) < len(plain_pieces(web, range(tie)))
            ]
            self.assertEqual(told, expected)
            self.assertEqual(plain_pieces(web, told), pieces(web))

    def test_webs_that_are_none(self):
        hold_web_refusals(self, wood)


class Ring(Along):
    def test_told_rings(self):
        self.assertEqual([ring(WEB, tie) for tie in (0, 1, 3)], [[], [], []])
        self.assertEqual(ring(WEB, 2), [(2, True)])
        self.assertEqual(ring(WEB, 4), [(4, True), (3, False), (0, False)])
        self.assertEqual(ring(WEB, 5), [(5, True), (1, True)])
        self.assertEqual(ring(bare_web(2, (0, 1), (0, 1)), 1), [(1, True), (0, False)])
        self.assertEqual(ring(bare_web(2, (0, 1), (1, 0)), 1), [(1, True), (0, True)])

    def test_all_sorts_of_webs(self):
        for web in some_webs():
            standing = wood(web)
            for tie in range(len(web[2])):
                told = ring(web, tie)
                self.assertEqual(told == [], tie in standing)
                if told:
                    one, other = web[2][tie][:2]
                    self.hold_steps(web, one, one, told)
                    self.assertEqual(told[0], (tie, True))
                    self.assertTrue(all(back in standing for back, forth in told[1:]))
                    self.assertEqual(len(told) == 1, one == other)

    def test_no_tie(self):
        for tie in NO_NUMBERS:
            self.refuses(NoTie, ring, WEB, tie)
        for tie in (-1, 0, 1):
            self.refuses(NoTie, ring, bare_web(2), tie)

    def test_webs_that_are_none(self):
        for tie in (0, -1, 20):
            hold_web_refusals(self, ring, tie)


class Way(Along):
    def test_told_ways(self):
        self.assertEqual(way(WEB, 0, 2), [(3, False), (0, False)])
        self.assertEqual(way(WEB, 2, 0), [(0, True), (3, True)])
        self.assertEqual(way(WEB, 1, 3), [(1, False)])
        self.assertEqual(way(WEB, 5, 5), [])
        self.assertIsNone(way(WEB, 0, 1))
        self.assertIsNone(way(WEB, 5, 0))

    def test_all_sorts_of_webs(self):
        for web in some_webs():
            standing = wood(web)
            for piece in pieces(web):
                for place in range(len(web[1])):
                    for other in piece:
                        told = way(web, place, other)
                        if place not in piece:
                            self.assertIsNone(told)
                        else:
                            self.hold_steps(web, place, other, told)
                            self.assertTrue(all(tie in standing for tie, forth in told))
                            self.assertEqual(told == [], place == other)

    def test_a_long_way(self):
        web = bare_web(8, *[(at + 1, at) for at in (3, 0, 6, 1, 5, 2, 4)])
        self.assertEqual(way(web, 0, 7), [(tie, False) for tie in (1, 3, 5, 0, 6, 4, 2)])
        self.assertEqual(way(web, 7, 0), [(tie, True) for tie in (2, 4, 6, 0, 5, 3, 1)])

    def test_no_place(self):
        for place in NO_NUMBERS:
            for other in (0, 5, -1, 6):
                self.refuses(NoPlace, way, WEB, place, other)
                self.refuses(NoPlace, way, WEB, other, place)

    def test_webs_that_are_none(self):
        for place, other in ((0, 0), (-1, 0), (0, 9)):
            hold_web_refusals(self, way, place, other)


class HandedInAndTold(Case):
    def test_changing_a_told_list_changes_no_later_answer(self):
        self.answers_stay(
            lambda: pieces(WEB), lambda: pieces(WEB)[0], lambda: wood(WEB), lambda: ring(WEB, 4),
            lambda: way(WEB, 0, 2),
        )
        for call in (lambda: ring(WEB, 0), lambda: way(WEB, 5, 5), lambda: wood(bare_web(1))):
            call().append(3)
            self.assertEqual(call(), [])

    def test_rooms_and_tables_do_not_matter(self):
        last = (2, 0, 2, ((), ()), table(5, (1,), (0,)))
        web = (5, (1, 2, 0), ((0, 1, 0, (), ()), (1, 2, 1, table(5, (0, 0)), ((),)), last))
        self.assertEqual(pieces(web), [[0, 1, 2]])
        self.assertEqual(ring(web, 2), [(2, True), (0, True), (1, True)])
        self.assertEqual(ring((5, (1,), ((0, 0, 1, unit(1), unit(1)),)), 0), [(0, True)])

    def test_by_name(self):
        self.assertEqual(pieces(web=WEB), pieces(WEB))
        self.assertEqual(wood(web=WEB), [0, 1, 3])
        self.assertEqual(ring(web=WEB, tie=2), [(2, True)])
        self.assertEqual(way(web=WEB, place=1, other=3), [(1, False)])


if __name__ == "__main__":
    unittest.main()
