"""Needed stations: tunehall/needed.py, points 1 and 110."""

import random
import time
import unittest

from tests.made import Looking, all_near, random_web, ring, web_made, web_of_gaps
from tunehall.errors import NoPlan, TooMany
from tunehall.fewest import fewest
from tunehall.needed import needed
from tunehall.parts import web_part

SECONDS = 2


class Needed(Looking, unittest.TestCase):
    def needed(self, web, wanted):
        found = self.told(needed, web)
        self.assertEqual(found, wanted)
        self.assertIs(found.__class__, tuple)

    def test_one_station(self):
        self.needed(web_made(1, {}, 1), (0,))
        self.needed(web_made(60, {}, 1), (0,))
        self.needed(web_made(60, {}, 1, (1 << 59,)), (0,))
        self.needed(web_made(60, {}, 1, (0b110,)), (0,))

    def test_one_station_that_may_have_no_tune(self):
        self.refused(NoPlan, needed, web_made(60, {}, 1, (0,)))

    def test_no_two_near(self):
        for count in (2, 5, 24):
            self.needed(web_made(9, {}, count), (count - 1,))
        self.needed(web_made(9, {}, 5, (1, 8, 2, 8, 511)), (3,))

    def test_all_near(self):
        for count in (2, 5, 24):
            self.needed(all_near(60, 1, count), tuple(range(count)))

    def test_a_ring(self):
        for count in (5, 7):
            self.needed(ring(9, 1, count), tuple(range(count)))
        self.needed(ring(9, 1, 6), (4, 5))
        self.needed(ring(9, 2, 5), (0, 1, 2, 3, 4))

    def test_a_crowd_among_loose_ones(self):
        crowd = {(1, 3): 2, (1, 6): 2, (3, 6): 2}
        self.needed(web_made(9, crowd, 8), (1, 3, 6))
        self.needed(web_made(9, {**crowd, (0, 2): 2, (0, 7): 2, (2, 7): 2}, 8), (1, 3, 6))
        self.needed(web_made(9, {**crowd, (0, 2): 3, (4, 5): 4}, 8), (4, 5))
        self.needed(web_made(9, {**crowd, (0, 2): 5, (4, 5): 4}, 8), (0, 2))

    def test_the_first_ones_are_left_out_first(self):
        self.needed(web_made(9, {(0, 1): 1, (2, 3): 1}, 4), (2, 3))
        self.needed(web_made(9, {(0, 3): 1, (1, 2): 1}, 4), (1, 2))
        self.needed(web_made(9, {(0, 1): 1, (1, 2): 1, (2, 3): 1}, 4), (2, 3))

    def test_a_ring_among_loose_ones(self):
        web = web_of_gaps(9, lambda i, j: 1 if 3 <= i and j < 8 and j - i in (1, 4) else 0, 10)
        self.needed(web, (3, 4, 5, 6, 7))

    def test_by_the_words_of_the_point(self):
        chance = random.Random(110)
        seen = set()
        for _ in range(200):
            web = random_web(chance, chance.randint(1, 7), chance.randint(1, 9))
            try:
                many = fewest(web)[0]
            except NoPlan:
                self.refused(NoPlan, needed, web)
                continue
            kept = list(range(len(web[0])))
            for i in range(len(web[0])):
                rest = tuple(j for j in kept if j != i)
                if rest and fewest(web_part(web, rest))[0] == many:
                    kept.remove(i)
            self.needed(web, tuple(kept))
            # These alone want as many tunes; without any one of them fewer are wanted.
            self.assertEqual(fewest(web_part(web, tuple(kept)))[0], many)
            if len(kept) > 1:
                for i in kept:
                    self.assertLess(fewest(web_part(web, tuple(j for j in kept if j != i)))[0], many)
            seen.add(len(kept))
        self.assertLessEqual({1, 2, 3, 4}, seen)

    def test_no_plan(self):
        self.refused(NoPlan, needed, web_made(1, {(0, 1): 1}, 2))
        self.refused(NoPlan, needed, ring(2, 1))
        self.refused(NoPlan, needed, all_near(60, 5, 24))
        self.refused(NoPlan, needed, web_made(9, {}, 3, (511, 0, 511)))

    def test_too_many(self):
        # Loose stations ahead of a ring, of which two tunes are tried in vain.
        web = web_of_gaps(60, lambda i, j: 1 if i >= 15 and j - i in (1, 4) else 0, 20)
        self.refused(TooMany, fewest, web)
        self.refused(TooMany, needed, web)

    def test_too_many_of_what_is_left(self):
        # The crowd of the whole tells its number at once; without station 0 a ring wants as many, for
        # which a lesser number is tried in vain, with too many cases.
        web = web_of_gaps(60, lambda i, j: 1 if j <= 2 or i >= 15 and j - i in (1, 4) else 0, 20)
        self.assertEqual(fewest(web)[0], 3)
        self.refused(TooMany, fewest, web_part(web, tuple(range(1, 20))))
        self.refused(TooMany, needed, web)

    def test_twenty_four_stations_at_once(self):
        for web in (all_near(60, 2, 24), web_made(60, {}, 24), ring(60, 3, 24),
                    web_of_gaps(60, lambda i, j: 2 if j - i <= 3 else 0, 24),
                    web_of_gaps(60, lambda i, j: 2 if i // 3 == j // 3 else 0, 24)):
            start = time.perf_counter()
            needed(web)
            self.assertLess(time.perf_counter() - start, 2 * SECONDS)


if __name__ == "__main__":
    unittest.main()
