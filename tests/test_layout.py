import unittest

from helpers import (
    NOUGHT, ONE, chance_whole, flat, led, many_webs, new_chance, rooms_of_ties, row, table, told_differences,
)
from stalkweb.layout import cut, difference, great, spread, strung, tie_rooms


class Layout(unittest.TestCase):
    def test_cut(self):
        self.assertEqual(cut((), ()), [])
        self.assertEqual(cut((), (0, 0)), [(), ()])
        self.assertEqual(cut(row(0, 1, 2, 3), (1, 0, 2)), [row(0, 1), (), row(0, 2, 3)])
        self.assertEqual(cut(list(row(0, 1, 2)), [2]), [row(0, 1, 2)])

    def test_strung(self):
        self.assertEqual(strung([]), ())
        self.assertEqual(strung([row(0, 1), (), row(0, 2, 3)]), row(0, 1, 2, 3))

    def test_tie_rooms(self):
        self.assertEqual(tie_rooms((0, (1,), ())), [])
        self.assertEqual(tie_rooms((0, (1, 0), ((0, 0, 1, ((ONE,),), ((ONE,),)), (1, 1, 0, (), ())))), [1, 0])

    def test_spread(self):
        self.assertEqual(spread(row(0, 5), (2, 1, 1), 1), list(row(0, 0, 0, 5, 0)))
        self.assertEqual(spread(row(0, 5, 6), (2, 1), 0), list(row(0, 5, 6, 0)))
        self.assertEqual(spread((), (1, 0), 1), [NOUGHT])

    def test_difference(self):
        self.assertEqual(difference(0, row(0, 1, 2), row(0, 5, 1)), row(0, 4, -1))
        self.assertEqual(difference(5, row(5, 1, 2), row(5, 0, 1)), row(5, 4, 4))
        self.assertEqual(difference(3, (), ()), ())

    def test_great(self):
        web = (5, (1, 2), ((1, 0, 1, table(5, (1, 2)), table(5, (3,))), (1, 1, 1, table(5, (1, 0)), table(5, (1, 1)))))
        self.assertEqual(great(web), [row(5, 3, 4, 3), row(5, 0, 0, 1)])
        chance = new_chance(71)
        for web in many_webs(71):
            whole = chance_whole(chance, web)
            told = led(web[0], great(web), flat(whole))
            self.assertEqual(cut(told, rooms_of_ties(web)), told_differences(web, whole))


if __name__ == "__main__":
    unittest.main()
