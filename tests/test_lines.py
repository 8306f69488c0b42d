import unittest

from helpers import NOUGHT, ONE, SOME_FIELDS, chance_number, chance_rows, combined, low_rank_rows, new_chance, row
from stalkweb.lines import lead_of, left_over, lines_with, lines_without, reduced_lines
from stalkweb.rows import reduced


class Lines(unittest.TestCase):
    def hold(self, field, width, lines, standing):
        """Each line's weights sum the rows that stand to its row, and the rows are the reduced ones."""
        self.assertEqual(len(lines), len(standing))
        for line in lines:
            self.assertEqual(combined(field, line[width:], standing, width), tuple(line[:width]))
        told = reduced(field, standing, width)
        self.assertEqual([tuple(line[:width]) for line in reduced_lines(lines, width)], told)
        self.assertEqual([tuple(line[:width]) for line in lines[:len(told)]], told)
        self.assertEqual(reduced_lines(lines, width), lines[:len(told)])

    def test_lead_of(self):
        self.assertEqual(lead_of([ONE]), 0)
        self.assertEqual(lead_of([NOUGHT, NOUGHT, (2, 1), ONE]), 2)

    def test_rows_come_and_go(self):
        chance = new_chance(51)
        for field in SOME_FIELDS:
            for width in (0, 1, 3, 4):
                lines, standing = [], []
                for line in low_rank_rows(chance, field, 6, width, 2) + chance_rows(chance, field, 3, width):
                    lines = lines_with(field, lines, width, line)
                    standing.append(line)
                    self.hold(field, width, lines, standing)
                while standing:
                    at = chance.randrange(len(standing))
                    lines = lines_without(field, lines, width, at)
                    del standing[at]
                    self.hold(field, width, lines, standing)

    def test_left_over(self):
        lines = lines_with(0, [], 2, row(0, 2, 4))
        self.assertEqual(left_over(0, lines, 2, row(0, 3, 6)), list(row(0, 0, 0, (-3, 2))))
        self.assertEqual(left_over(0, lines, 2, row(0, 0, 1)), list(row(0, 0, 1, 0)))
        self.assertEqual(left_over(5, [], 2, row(5, 3, 6)), list(row(5, 3, 1)))

    def test_what_was_told_before_is_left_as_it_was(self):
        lines = lines_with(3, lines_with(3, [], 2, row(3, 1, 2)), 2, row(3, 2, 1))
        again = [list(line) for line in lines]
        lines_with(3, lines, 2, row(3, 0, 1))
        lines_without(3, lines, 2, 0)
        left_over(3, lines, 2, row(3, 1, 1))
        self.assertEqual(lines, again)

    def test_weights_do_not_grow_from_deed_to_deed(self):
        chance = new_chance(52)
        lines, standing = [], []
        for _ in range(120):
            if len(standing) == 12:
                at = chance.randrange(12)
                lines = lines_without(0, lines, 4, at)
                del standing[at]
            line = tuple(chance_number(chance, 0) for _ in range(4))
            lines = lines_with(0, lines, 4, line)
            standing.append(line)
            self.assertLess(max(abs(worth) for told in lines for pair in told for worth in pair), 10 ** 16)
        self.hold(0, 4, lines, standing)


if __name__ == "__main__":
    unittest.main()
