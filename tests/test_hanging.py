import unittest

from helpers import many_webs
from stalkweb.hanging import hung, ring_steps, ways_from, wood_ties

# Three pieces: 0, 2 and 4 hang together, 1 and 3 do, 5 hangs alone.
WEB = (2, (0,) * 6, tuple((one, other, 0, (), ()) for one, other in ((2, 4), (3, 1), (4, 4), (4, 0), (2, 0), (1, 3))))


class Hanging(unittest.TestCase):
    def test_hung(self):
        self.assertEqual(hung(WEB), ([0, 1, 0, 1, 0, 5], [0, 1, 3]))
        self.assertEqual(hung((0, (1,), ())), ([0], []))
        self.assertEqual(wood_ties(WEB), [0, 1, 3])

    def test_ways_from(self):
        self.assertEqual(ways_from(WEB, 0), {0: [], 4: [(3, False)], 2: [(3, False), (0, False)]})
        self.assertEqual(ways_from(WEB, 2), {2: [], 4: [(0, True)], 0: [(0, True), (3, True)]})
        self.assertEqual(ways_from(WEB, 3), {3: [], 1: [(1, True)]})
        self.assertEqual(ways_from(WEB, 5), {5: []})

    def test_the_wood_in_an_order_far_from_the_place(self):
        ties = tuple((at, at + 1, 0, (), ()) for at in range(7))
        for order in (ties, ties[::-1], ties[::2] + ties[1::2]):
            found = ways_from((0, (0,) * 8, order), 7)
            self.assertEqual([len(found[place]) for place in range(8)], [7, 6, 5, 4, 3, 2, 1, 0])

    def test_ring_steps(self):
        self.assertEqual([ring_steps(WEB, tie) for tie in (0, 1, 3)], [[], [], []])
        self.assertEqual(ring_steps(WEB, 2), [(2, True)])
        self.assertEqual(ring_steps(WEB, 4), [(4, True), (3, False), (0, False)])
        self.assertEqual(ring_steps(WEB, 5), [(5, True), (1, True)])

    def test_all_places_of_a_piece_are_reached(self):
        for web in many_webs(131):
            firsts, wood = hung(web)
            for place, first in enumerate(firsts):
                reached = [other for other, mark in enumerate(firsts) if mark == first]
                self.assertEqual(sorted(ways_from(web, place)), reached)


if __name__ == "__main__":
    unittest.main()
