"""Crowds: tunehall/crowds.py, points 1 and 50."""

import itertools
import random
import time
import unittest

from tunehall.crowds import bound_of, crowd_of, need_of
from tunehall.webs import is_web

# What is looked for at once takes far less; a slow machine is given some more.
SECONDS = 2


def web_made(count, told):
    """A web of so many stations; told(i, j) is the gap of i and j, i the lesser one."""
    rows = [[0] * count for _ in range(count)]
    for i, j in itertools.combinations(range(count), 2):
        rows[i][j] = rows[j][i] = told(i, j)
    return (tuple(f"s{i}" for i in range(count)), 9, tuple(map(tuple, rows)), (511,) * count)


def of_pairs(count, *pairs):
    """A web of so many stations with the gaps (i, j, gap)."""
    gaps = {(i, j): gap for i, j, gap in pairs}
    return web_made(count, lambda i, j: gaps.get((i, j), 0))


def crowd_told(web, gap):
    """The greatest crowd by the words of point 50, all tuples gone through."""
    for many in range(len(web[0]), 0, -1):
        for crowd in itertools.combinations(range(len(web[0])), many):
            if all(web[2][i][j] >= gap for i, j in itertools.combinations(crowd, 2)):
                return crowd
    raise AssertionError("each station is a crowd")


def bound_told(web):
    """The bound by the words of the interface."""
    best = (0,)
    for gap in range(1, 6):
        crowd = crowd_told(web, gap)
        need = (len(crowd) - 1) * gap + 1
        if need > best[0]:
            best = (need, gap, crowd)
    return best


class Looking(unittest.TestCase):
    def own_kinds(self, crowd):
        self.assertIs(crowd.__class__, tuple)
        for i in crowd:
            self.assertIs(i.__class__, int)

    def crowd(self, web, gap, wanted):
        for _ in range(2):
            found = crowd_of(web, gap)
            self.assertEqual(found, wanted)
            self.own_kinds(found)

    def bound(self, web, need, gap, crowd):
        for _ in range(2):
            found = bound_of(web)
            self.assertEqual(found, (need, gap, crowd))
            self.assertEqual([part.__class__ for part in found], [int, int, tuple])
            self.own_kinds(found[2])


class Crowds(Looking):
    def test_one_station(self):
        for gap in range(1, 6):
            self.crowd(web_made(1, None), gap, (0,))

    def test_no_two_near(self):
        for count in (2, 5, 24):
            web = web_made(count, lambda i, j: 0)
            for gap in range(1, 6):
                self.crowd(web, gap, (0,))

    def test_all_near(self):
        for count in (2, 5, 24):
            for wide in range(1, 6):
                web = web_made(count, lambda i, j, wide=wide: wide)
                for gap in range(1, 6):
                    self.crowd(web, gap, tuple(range(count)) if gap <= wide else (0,))

    def test_that_gap_or_more(self):
        web = of_pairs(6, (0, 1, 1), (0, 2, 1), (1, 2, 2), (3, 4, 5), (2, 5, 3), (1, 5, 4), (0, 5, 1))
        self.crowd(web, 1, (0, 1, 2, 5))
        self.crowd(web, 2, (1, 2, 5))
        self.crowd(web, 3, (1, 5))
        self.crowd(web, 4, (1, 5))
        self.crowd(web, 5, (3, 4))

    def test_each_two_have_it(self):
        # Neighbours of one another in a row or a ring are no crowd.
        for gap in range(1, 6):
            self.crowd(web_made(7, lambda i, j: 5 if j - i == 1 else 0), gap, (0, 1))
            self.crowd(web_made(7, lambda i, j: 5 if j - i in (1, 6) else 0), gap, (0, 1))
            self.crowd(web_made(7, lambda i, j: 5 if i == 0 else 0), gap, (0, 1))
            self.crowd(web_made(7, lambda i, j: 5 if j == 6 else 0), gap, (0, 6))

    def test_the_least_tuple_of_several(self):
        self.crowd(of_pairs(6, (0, 5, 1), (1, 2, 1), (3, 4, 1)), 1, (0, 5))
        self.crowd(of_pairs(6, (1, 5, 1), (2, 3, 1), (1, 4, 1)), 1, (1, 4))
        trio = ((2, 3, 1), (2, 4, 1), (3, 4, 1))
        self.crowd(of_pairs(6, *trio, (1, 2, 1), (1, 5, 1), (2, 5, 1)), 1, (1, 2, 5))
        self.crowd(of_pairs(6, *trio, (0, 5, 1)), 1, (2, 3, 4))
        self.crowd(of_pairs(6, *trio, (0, 3, 1), (0, 4, 1)), 1, (0, 3, 4))
        # Eight threes, near where they are of unlike ones.
        self.crowd(web_made(24, lambda i, j: 5 if i // 3 != j // 3 else 0), 5, tuple(range(0, 24, 3)))
        self.crowd(web_made(24, lambda i, j: 5 if i % 8 != j % 8 else 0), 5, tuple(range(8)))

    def test_a_greater_crowd_is_ahead_of_a_lesser_tuple(self):
        self.crowd(of_pairs(5, (0, 1, 5), (2, 3, 5), (2, 4, 5), (3, 4, 5)), 5, (2, 3, 4))

    def test_what_it_begins_with_may_be_near_few(self):
        pairs = [(i, j, 2) for i, j in itertools.combinations((20, 21, 22, 23), 2)]
        more = [(1, i, 2) for i in range(2, 19)]
        self.crowd(of_pairs(24, *pairs, *more), 2, (20, 21, 22, 23))
        self.crowd(of_pairs(24, *pairs, *more, (0, 21, 2), (0, 22, 2), (0, 23, 2)), 2, (0, 21, 22, 23))

    def test_by_the_words_of_the_point(self):
        chance = random.Random(50)
        for _ in range(300):
            dense = chance.random()
            gaps = chance.choice(((5,), (1, 2), (0, 1, 2, 3, 4, 5), (3, 4, 5)))
            web = web_made(
                chance.randint(1, 9), lambda i, j: chance.choice(gaps) if chance.random() < dense else 0)
            for gap in range(1, 6):
                self.crowd(web, gap, crowd_told(web, gap))
            self.bound(web, *bound_told(web))

    def test_a_gap_somewhat_beyond(self):
        web = web_made(5, lambda i, j: 5)
        self.crowd(web, 6, (0,))
        self.crowd(web_made(5, lambda i, j: 0), 0, (0, 1, 2, 3, 4))


class Needs(Looking):
    def test_needs(self):
        for gap in range(1, 6):
            for first in (0, 3):
                for many in range(1, 25):
                    need = need_of(gap, tuple(range(first, first + many)))
                    self.assertEqual(need, (many - 1) * gap + 1)
                    self.assertIs(need.__class__, int)
        self.assertEqual(need_of(3, (7,)), 1)
        self.assertEqual(need_of(5, (1, 2)), 6)
        self.assertEqual(need_of(1, (0, 4, 9)), 3)

    def test_no_good_plan_has_fewer(self):
        # Three stations, each two of which want a gap: tried out in all plans.
        for gap in range(1, 6):
            need = need_of(gap, (0, 1, 2))
            for many in (need - 1, need):
                plans = itertools.product(range(many), repeat=3)
                good = any(all(abs(a - b) >= gap for a, b in itertools.combinations(plan, 2)) for plan in plans)
                self.assertEqual(good, many == need)


class Bounds(Looking):
    def test_one_station_and_none_near(self):
        self.bound(web_made(1, None), 1, 1, (0,))
        self.bound(web_made(24, lambda i, j: 0), 1, 1, (0,))

    def test_all_near(self):
        for gap in range(1, 6):
            self.bound(web_made(24, lambda i, j, gap=gap: gap), 23 * gap + 1, gap, tuple(range(24)))

    def test_the_one_that_needs_most(self):
        # Four with a gap of 1 need 4, two with a gap of 4 need 5.
        pairs = [(i, j, 1) for i, j in itertools.combinations(range(4), 2)]
        self.bound(of_pairs(6, *pairs), 4, 1, (0, 1, 2, 3))
        self.bound(of_pairs(6, *pairs, (4, 5, 4)), 5, 4, (4, 5))
        self.bound(of_pairs(6, *pairs, (4, 5, 2)), 4, 1, (0, 1, 2, 3))

    def test_of_two_gaps_that_need_as_many_the_lesser(self):
        fours = [(i, j, 1) for i, j in itertools.combinations(range(2, 6), 2)]
        self.bound(of_pairs(6, (0, 1, 3), *fours), 4, 1, (2, 3, 4, 5))
        threes = [(i, j, 2) for i, j in itertools.combinations(range(2, 5), 2)]
        self.bound(of_pairs(6, (0, 1, 4), *threes), 5, 2, (2, 3, 4))
        sixes = [(i, j, 1) for i, j in itertools.combinations(range(2, 8), 2)]
        self.bound(of_pairs(8, (0, 1, 5), *sixes), 6, 1, (2, 3, 4, 5, 6, 7))

    def test_names_many_and_lists_are_nothing_to_it(self):
        web = of_pairs(3, (0, 2, 5), (1, 2, 3))
        for other in ((("z", "y", ""), 60, web[2], (0, 0, 1)), (("a", "b", "c"), 1, web[2], (0, 0, 0))):
            self.bound(other, 6, 5, (0, 2))
            self.crowd(other, 3, (0, 2))
            self.crowd(other, 1, (0, 2))

    def test_what_is_handed_in_is_not_changed(self):
        chance = random.Random(1)
        told = [[chance.randint(0, 5) for _ in range(12)] for _ in range(12)]
        web, same = (web_made(12, lambda i, j: told[i][j]) for _ in range(2))
        first = bound_of(web)
        crowds = [crowd_of(web, gap) for gap in range(1, 6)]
        bound_of(web_made(12, lambda i, j: 5))
        self.assertEqual(bound_of(web), first)
        self.assertEqual([crowd_of(web, gap) for gap in range(1, 6)], crowds)
        self.assertEqual(web, same)


class Quickness(unittest.TestCase):
    """Webs of twenty-four stations of the kinds that are slow to look through."""

    def at_once(self, told):
        web = web_made(24, told)
        self.assertTrue(is_web(web))
        start = time.perf_counter()
        need, gap, crowd = bound_of(web)
        self.assertLess(time.perf_counter() - start, SECONDS)
        self.assertEqual(need, (len(crowd) - 1) * gap + 1)
        for i, j in itertools.combinations(crowd, 2):
            self.assertGreaterEqual(web[2][i][j], gap)
        return len(crowd)

    def test_groups_of_which_no_two_are_near(self):
        for size in range(1, 25):
            groups = -(-24 // size)
            self.assertEqual(self.at_once(lambda i, j: 0 if i // size == j // size else 5), groups)
            self.assertEqual(self.at_once(lambda i, j: 0 if i % groups == j % groups else 5), groups)

    def test_rings_of_which_neighbours_are_not_near(self):
        for size in (4, 5, 6, 8, 12, 24):
            most = 24 // size * (size // 2) + 24 % size // 2 + 24 % size % 2
            self.assertEqual(
                self.at_once(lambda i, j: 0 if i // size == j // size and j - i in (1, size - 1) else 5), most)

    def test_rings_with_some_steps_not_near(self):
        chance = random.Random(24)
        for _ in range(40):
            steps = chance.sample(range(1, 13), chance.randint(1, 6))
            self.at_once(lambda i, j: 0 if min(j - i, 24 - j + i) in steps else 5)

    def test_each_not_near_to_few(self):
        chance = random.Random(3)
        for few in range(1, 9):
            apart = set()
            for _ in range(few):
                order = chance.sample(range(24), 24)
                apart.update(tuple(sorted(order[at:at + 2])) for at in range(0, 24, 2))
            self.at_once(lambda i, j: 0 if (i, j) in apart else 5)

    def test_gaps_of_all_sizes(self):
        chance = random.Random(6)
        for dense in range(1, 20):
            self.at_once(lambda i, j: chance.randint(1, 5) if chance.random() < dense / 20 else 0)
            self.at_once(lambda i, j: 5 if chance.random() < dense / 20 else chance.randint(0, 4))


if __name__ == "__main__":
    unittest.main()
