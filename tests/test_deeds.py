import unittest

from helpers import Case, new_chance, row, table, unit
from plain_book import COUNTS, PlainBook, chance_deed
from stalkweb import deeds
from stalkweb.errors import BadColumn, NoPlace
from stalkweb.texts import DEED_THINGS


def told(state):
    return dict(state.rooms), dict(state.bonds), dict(state.columns), state.coming_place, state.coming_tie


class Deeds(Case):
    def test_a_new_state(self):
        self.assertEqual(told(deeds.State()), ({}, {}, {}, 1, 1))

    def test_a_copy_goes_its_own_way(self):
        state, number = deeds.done(0, deeds.State(), ("place", 1))
        self.assertEqual(number, 1)
        other = deeds.copied(state)
        self.assertEqual(told(other), told(state))
        other.rooms[2], other.bonds[1], other.columns[1] = 0, (), ()
        other.coming_place = other.coming_tie = 9
        self.assertEqual(told(state), ({1: 1}, {}, {}, 2, 1))

    def test_each_deed_leaves_the_state_as_it_is(self):
        chance = new_chance(271)
        for field in (0, 5):
            plain, state = PlainBook(field), deeds.State()
            for _ in range(150):
                deed = chance_deed(chance, plain)
                before, kind = told(state), plain.refusal(deed)
                if kind is None:
                    after, number = deeds.done(field, state, deed)
                    self.assertEqual(number, plain.do(deed))
                    self.assertEqual(told(state), before)
                    state = after
                else:
                    self.refuses(kind, deeds.done, field, state, deed)
                    self.assertEqual(told(state), before)

    def test_check_saying(self):
        deeds.check_saying(0, {4: 2}, 4, row(0, 1, (1, 2)))
        self.refuses(NoPlace, deeds.check_saying, 0, {4: 2}, 3, row(0, 1, 2))
        self.refuses(NoPlace, deeds.check_saying, 0, {4: 2}, 3, ((2, 2),))
        for column in (row(0, 1), row(0, 1, 2, 3), row(0, 100, 1), ((2, 2), (1, 1))):
            self.refuses(BadColumn, deeds.check_saying, 0, {4: 2}, 4, column)

    def test_there_is_a_maker_for_each_deed_that_is_read(self):
        self.assertEqual(sorted(deeds.MAKERS), sorted(DEED_THINGS))
        self.assertEqual({word: len(kinds) for word, kinds in DEED_THINGS.items()}, COUNTS)

    def test_with_table_at_either_end(self):
        state = deeds.State()
        for deed in (("place", 1), ("place", 2), ("tie", 1, 2, 1, unit(1), table(0, (1, 2)))):
            state, number = deeds.done(0, state, deed)
        first, _ = deeds.done(0, state, ("change", 1, 0, table(0, (5,))))
        second, _ = deeds.done(0, state, ("change", 1, 1, table(0, (5, 6))))
        self.assertEqual(first.bonds, {1: (1, 2, 1, table(0, (5,)), table(0, (1, 2)))})
        self.assertEqual(second.bonds, {1: (1, 2, 1, unit(1), table(0, (5, 6)))})


if __name__ == "__main__":
    unittest.main()
