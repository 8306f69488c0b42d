import unittest

from helpers import (
    BAD_FIELDS, NOUGHT, ONE, SOME_FIELDS, Case, bad_numbers, chance_number, chance_rows, combined, every_row, great,
    low_rank_rows, new_chance, noughts, number, plain_rank, row, rows,
)
from stalkweb.errors import BadField, BadNumber, BadShape, Full, NoRow
from stalkweb.kept import Kept


class Keeping(Case):
    """What kept rows tell, held against the pairs that ought to stand."""

    def hold(self, kept, field, width, standing):
        lines = [line for number, line in standing]
        told = kept.rank()
        self.assertEqual(told, plain_rank(field, lines))
        self.assertEqual(len(kept), len(standing))
        self.assertIs(bool(kept), bool(standing))
        self.assertEqual(kept.rows(), standing)
        self.assertIs(kept.rows().__class__, list)
        self.assertEqual(repr(kept), "Kept(" + str(field) + ", " + str(told) + " of " + str(len(standing)) + ")")

    def hold_row(self, kept, field, width, standing, line):
        """Whether a row is held, and what it is made of."""
        lines = dict(standing)
        held = plain_rank(field, list(lines.values()) + [line]) == plain_rank(field, list(lines.values()))
        self.assertIs(kept.holds(line), held)
        made = kept.made_of(line)
        if not held:
            self.assertIsNone(made)
            return held
        self.assertIs(made.__class__, list)
        self.assertEqual([pair.__class__ for pair in made], [tuple] * len(made))
        numbers = [number for number, factor in made]
        self.assertEqual(numbers, sorted(set(numbers)))
        self.assertTrue(all(factor != NOUGHT for number, factor in made))
        self.assertLessEqual(set(numbers), set(lines))
        self.assertEqual(
            combined(field, [factor for number, factor in made], [lines[number] for number in numbers], width), line
        )
        return held

    def filled(self, field, lines, width):
        kept = Kept(field, width)
        for line in lines:
            kept.put(line)
        return kept


class Deeds(Keeping):
    def test_told_deeds(self):
        kept = Kept(7, 3)
        self.assertEqual(repr(kept), "Kept(7, 0 of 0)")
        lines = rows(7, (1, 2, 3), (2, 4, 6), (0, 1, 1), (1, 3, 4), (0, 0, 5))
        self.assertEqual([kept.put(line) for line in lines], [1, 2, 3, 4, 5])
        self.assertEqual(repr(kept), "Kept(7, 3 of 5)")
        self.assertEqual(kept.drop(5), row(7, 0, 0, 5))
        self.assertEqual(repr(kept), "Kept(7, 2 of 4)")
        self.assertEqual(kept.rows(), list(enumerate(lines[:4], 1)))
        self.assertEqual(kept.put(row(7, 1, 1, 1)), 6)

    def test_behind_each_deed(self):
        chance = new_chance(61)
        for field in SOME_FIELDS:
            for width in (0, 1, 2, 4, 7):
                kept, standing, coming = Kept(field, width), [], 1
                for _ in range(60):
                    if standing and chance.random() < 0.4:
                        pair = standing.pop(chance.randrange(len(standing)))
                        self.assertEqual(kept.drop(pair[0]), pair[1])
                    else:
                        line = chance_rows(chance, field, 1, width)[0]
                        if standing and chance.random() < 0.5:
                            some = [other for number, other in standing]
                            line = combined(field, [chance_number(chance, field) for _ in some], some, width)
                        told = kept.put(line)
                        self.assertEqual(told, coming)
                        self.assertIs(told.__class__, int)
                        standing.append((coming, line))
                        coming += 1
                    self.hold(kept, field, width, standing)
                    self.hold_row(kept, field, width, standing, noughts(width))
                    self.hold_row(kept, field, width, standing, chance_rows(chance, field, 1, width)[0])

    def test_numbers_never_come_twice(self):
        kept = Kept(0, 1)
        for coming in range(1, 8):
            self.assertEqual(kept.put((ONE,)), coming)
            kept.drop(coming)
        self.assertEqual(kept.rows(), [])
        self.assertEqual(kept.put((ONE,)), 8)
        self.assertEqual(kept.put((ONE,)), 9)
        kept.drop(8)
        self.assertEqual(kept.put((NOUGHT,)), 10)
        self.assertEqual([number for number, line in kept.rows()], [9, 10])

    def test_a_refused_row_takes_no_number(self):
        kept = Kept(5, 1)
        self.refuses(BadShape, kept.put, ())
        self.refuses(BadNumber, kept.put, ((5, 1),))
        self.refuses(NoRow, kept.drop, 1)
        self.assertEqual(kept.rows(), [])
        self.assertEqual(kept.put((ONE,)), 1)

    def test_a_dropped_row_lowers_the_rank_just_where_the_others_do_not_hold_it(self):
        chance = new_chance(62)
        for field in SOME_FIELDS:
            for _ in range(8):
                kept = self.filled(field, low_rank_rows(chance, field, 5, 4, 3) + chance_rows(chance, field, 1, 4), 4)
                while kept:
                    before = kept.rank()
                    line = kept.drop(chance.choice(kept.rows())[0])
                    self.assertEqual(kept.rank(), before if kept.holds(line) else before - 1)

    def test_twice_the_same_row(self):
        kept = self.filled(0, [row(0, 1, 2)] * 2, 2)
        self.assertEqual((len(kept), kept.rank()), (2, 1))
        self.assertEqual(kept.drop(1), row(0, 1, 2))
        self.assertEqual(kept.made_of(row(0, 2, 4)), [(2, (2, 1))])
        self.assertEqual(kept.drop(2), row(0, 1, 2))
        self.assertEqual((len(kept), kept.rank()), (0, 0))


class Holding(Keeping):
    def test_told_rows(self):
        kept = self.filled(0, rows(0, (1, 0, 1), (0, 2, 0)), 3)
        self.assertTrue(kept.holds(row(0, 3, 1, 3)))
        self.assertEqual(kept.made_of(row(0, 3, 1, 3)), [(1, (3, 1)), (2, (1, 2))])
        self.assertEqual(kept.made_of(row(0, 0, 1, 0)), [(2, (1, 2))])
        self.assertIsNone(kept.made_of(row(0, 1, 0, 0)))
        self.assertFalse(kept.holds(row(0, 1, 0, 0)))

    def test_rows_of_noughts_and_of_no_numbers(self):
        for field in SOME_FIELDS:
            kept = Kept(field, 2)
            self.assertEqual(kept.made_of(noughts(2)), [])
            self.assertTrue(kept.holds(noughts(2)))
            self.assertEqual(kept.put(noughts(2)), 1)
            self.assertEqual(kept.rank(), 0)
            self.assertEqual(kept.made_of(noughts(2)), [])
            self.assertFalse(kept.holds((ONE, NOUGHT)))
            self.assertEqual(kept.drop(1), noughts(2))
            kept = Kept(field, 0)
            self.assertEqual(kept.made_of(()), [])
            self.assertEqual([kept.put(()), kept.put(())], [1, 2])
            self.assertTrue(kept.holds(()))
            self.assertEqual(kept.made_of(()), [])
            self.assertEqual((kept.rank(), len(kept), kept.rows()), (0, 2, [(1, ()), (2, ())]))

    def test_each_row_by_a_small_prime(self):
        for prime in (2, 3):
            standing = [(1, row(prime, 1, 1, 0)), (3, row(prime, 0, 1, 1)), (4, row(prime, 1, 2, 1))]
            kept = Kept(prime, 3)
            for line in (standing[0][1], noughts(3), standing[1][1], standing[2][1]):
                kept.put(line)
            kept.drop(2)
            held = [self.hold_row(kept, prime, 3, standing, line) for line in every_row(prime, 3)]
            self.assertEqual(sum(held), prime ** kept.rank())

    def test_asking_changes_nothing(self):
        kept = self.filled(0, rows(0, (1, 2), (2, 4)), 2)
        again = kept.twin()
        for line in (row(0, 3, 6), row(0, 1, 0), noughts(2)):
            kept.holds(line)
            kept.made_of(line)
        kept.rank(), kept.rows(), len(kept), repr(kept)
        self.assertEqual(kept, again)
        self.assertEqual(kept.put(row(0, 1, 0)), 3)


class Many(Keeping):
    def test_sixty_rows_at_once(self):
        chance = new_chance(63)
        for field in SOME_FIELDS:
            for width in (0, 2, 40):
                kept = self.filled(field, low_rank_rows(chance, field, 60, width, 12), width)
                again = kept.twin()
                self.assertEqual(len(kept), 60)
                self.refuses(Full, kept.put, noughts(width))
                self.refuses(BadShape, kept.put, noughts(width + 1))
                if width:
                    self.refuses(BadShape, kept.put, ())
                    self.refuses(BadNumber, kept.put, ((0, 2),) * width)
                self.assertEqual(kept, again)
                kept.drop(17)
                self.assertEqual(kept.put(noughts(width)), 61)
                self.refuses(Full, kept.put, noughts(width))
                kept.drop(61)
                self.assertEqual(kept.put(noughts(width)), 62)
                self.hold(kept, field, width, [pair for pair in again.rows() if pair[0] != 17] + [(62, noughts(width))])

    def test_sixty_rows_of_forty_numbers_of_full_rank(self):
        chance = new_chance(64)
        for field in (0, 97):
            lines = chance_rows(chance, field, 60, 40)
            kept = self.filled(field, lines, 40)
            self.hold(kept, field, 40, list(enumerate(lines, 1)))
            self.assertEqual(kept.rank(), 40)
            self.hold_row(kept, field, 40, list(enumerate(lines, 1)), chance_rows(chance, field, 1, 40)[0])

    def test_multiples_of_one_row_and_one_more(self):
        for field in SOME_FIELDS:
            line = tuple(number(field, 3 * at * at + 1, 1 if field else at + 1) for at in range(40))
            lines = [combined(field, [number(field, at + 1)], [line], 40) for at in range(58)]
            more = noughts(39) + (ONE,)
            kept = self.filled(field, lines, 40)
            self.assertEqual(kept.rank(), 1)
            self.assertFalse(kept.holds(more))
            self.assertEqual(kept.put(more), 59)
            standing = list(enumerate(lines + [more], 1))
            self.hold(kept, field, 40, standing)
            self.assertEqual(kept.rank(), 2)
            both = combined(field, row(field, 1, 1), [line, more], 40)
            self.assertTrue(self.hold_row(kept, field, 40, standing, both))
            for at in range(1, 59):
                kept.drop(at)
            self.assertEqual((kept.rank(), kept.rows()), (1, [(59, more)]))

    def test_great_numbers(self):
        lines = [
            tuple(number(0, great(300, 5 * k + j), great(300, 90 + 5 * k + j)) for j in range(4)) for k in range(5)
        ]
        kept = self.filled(0, lines, 4)
        self.hold(kept, 0, 4, list(enumerate(lines, 1)))
        self.hold_row(kept, 0, 4, list(enumerate(lines, 1)), lines[4])
        kept.drop(2)
        self.assertTrue(kept.holds(lines[1]))
        far = 10 ** 4000 - 1
        kept = self.filled(0, [((far, far - 1), (far - 2, 1)), ((far - 2, far), ONE)], 2)
        self.assertEqual(kept.rank(), 2)
        self.assertTrue(kept.holds(((far, 1), (1, far))))


class Refusals(Keeping):
    def test_fields_and_widths(self):
        for field in BAD_FIELDS:
            self.refuses(BadField, Kept, field, 2)
            self.refuses(BadField, Kept, field, -1)
        for width in (-1, 41, 60, -(10 ** 20), 10 ** 20):
            for field in SOME_FIELDS:
                self.refuses(BadShape, Kept, field, width)
        for width in (0, 1, 40):
            self.assertEqual(Kept(0, width).put(noughts(width)), 1)

    def test_rows_of_another_length(self):
        for width, line in ((0, (ONE,)), (1, ()), (2, (ONE,)), (2, (ONE,) * 3), (40, (ONE,) * 39), (40, (ONE,) * 41)):
            kept = self.filled(0, [noughts(width)], width)
            for call in (kept.put, kept.holds, kept.made_of):
                self.refuses(BadShape, call, line)
            self.assertEqual(kept.rows(), [(1, noughts(width))])

    def test_what_is_no_number(self):
        for field in SOME_FIELDS:
            for bad in bad_numbers(field):
                kept = self.filled(field, [(ONE, NOUGHT)], 2)
                for call in (kept.put, kept.holds, kept.made_of):
                    self.refuses(BadNumber, call, (bad, ONE))
                    self.refuses(BadNumber, call, (NOUGHT, bad))
                    self.refuses(BadShape, call, (NOUGHT, NOUGHT, bad))
                    self.refuses(BadShape, call, (bad,))
                self.assertEqual((kept.rows(), kept.rank()), ([(1, (ONE, NOUGHT))], 1))

    def test_numbers_of_no_row(self):
        kept = self.filled(3, rows(3, (1,), (2,), (0,)), 1)
        kept.drop(2)
        for at in (2, 0, -1, 4, 10 ** 20, -(10 ** 20)):
            self.refuses(NoRow, kept.drop, at)
        self.assertEqual(kept.rows(), [(1, (ONE,)), (3, (NOUGHT,))])


class Alike(Keeping):
    def test_alike_and_not(self):
        lines = rows(7, (1, 2), (3, 4))
        one, other = self.filled(7, lines, 2), self.filled(7, lines, 2)
        self.assertTrue(one == other)
        self.assertFalse(one != other)
        other.put(row(7, 1, 1))
        self.assertTrue(one != other)
        self.assertFalse(one == other)
        self.assertFalse(other == one)
        # The pairs are the same again, whatever number comes next.
        other.drop(3)
        self.assertTrue(one == other)
        self.assertTrue(other == one)

    def test_other_fields_widths_numbers_and_rows(self):
        one = self.filled(7, rows(7, (1, 2)), 2)
        twice = self.filled(7, rows(7, (1, 2), (1, 2)), 2)
        twice.drop(1)
        for other in (
            self.filled(5, rows(5, (1, 2)), 2), self.filled(0, rows(0, (1, 2)), 2),
            self.filled(7, rows(7, (1, 2, 0)), 3), self.filled(7, rows(7, (2, 4)), 2), twice, Kept(7, 2),
        ):
            self.assertFalse(one == other)
            self.assertTrue(one != other)
        self.assertFalse(Kept(7, 2) == Kept(7, 3))
        self.assertFalse(Kept(7, 2) == Kept(5, 2))
        self.assertTrue(Kept(7, 2) == Kept(7, 2))

    def test_other_things(self):
        kept = self.filled(7, rows(7, (1, 2)), 2)
        for other in (None, 0, 7, "", repr(kept), [], kept.rows(), (7, 2), {1: row(7, 1, 2)}, object()):
            self.assertFalse(kept == other)
            self.assertFalse(other == kept)
            self.assertTrue(kept != other)
            self.assertTrue(other != kept)

    def test_twins_go_their_own_way(self):
        one = self.filled(0, rows(0, (1, 2), (2, 4), (0, 1)), 2)
        one.drop(3)
        other = one.twin()
        self.assertIs(other.__class__, Kept)
        self.assertEqual(one, other)
        self.assertEqual(repr(other), "Kept(0, 1 of 2)")
        # The next number is the same too.
        self.assertEqual([one.put(row(0, 0, 3)), other.put(row(0, 5, 5))], [4, 4])
        self.assertNotEqual(one, other)
        self.assertEqual(other.rows()[-1], (4, row(0, 5, 5)))
        other.drop(1)
        other.drop(2)
        self.assertEqual((one.rank(), other.rank()), (2, 1))
        self.assertEqual(one.rows(), [(1, row(0, 1, 2)), (2, row(0, 2, 4)), (4, row(0, 0, 3))])
        self.assertEqual(one.made_of(row(0, 1, 3))[-1][0], 4)
        one.drop(4)
        self.assertTrue(other.holds(row(0, 1, 1)))

    def test_made_apart(self):
        one, other = Kept(0, 1), Kept(0, 1)
        one.put((ONE,))
        self.assertEqual((len(one), len(other)), (1, 0))
        self.assertEqual(other.put((NOUGHT,)), 1)


class HandedInAndTold(Keeping):
    def test_changing_a_told_list_changes_nothing(self):
        kept = self.filled(0, rows(0, (1, 2), (0, 1)), 2)
        told = kept.rows()
        told.clear()
        self.assertEqual(kept.rows(), [(1, row(0, 1, 2)), (2, row(0, 0, 1))])
        self.assertIsNot(kept.rows(), kept.rows())
        made = kept.made_of(row(0, 1, 3))
        made.append(None)
        self.assertEqual(kept.made_of(row(0, 1, 3)), [(1, ONE), (2, ONE)])
        self.assertEqual(Kept(0, 1).made_of((NOUGHT,)), [])
        nothing = kept.made_of(noughts(2))
        nothing.append(1)
        self.assertEqual(kept.made_of(noughts(2)), [])

    def test_by_name(self):
        kept = Kept(field=5, width=1)
        self.assertEqual(kept.put(row=(ONE,)), 1)
        self.assertTrue(kept.holds(row=((3, 1),)))
        self.assertEqual(kept.made_of(row=((3, 1),)), [(1, (3, 1))])
        self.assertEqual(kept.drop(number=1), (ONE,))


if __name__ == "__main__":
    unittest.main()
