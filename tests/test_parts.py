"""Parts of webs and plans joined of theirs: tunehall/parts.py, points 1, 80 and 81."""

import itertools
import random
import time
import unittest

from tests.made import THINGS, Looking, all_near, is_good, random_web, ring, web_made, web_of_gaps, with_other
from tunehall.errors import BadPlan, NoPlan, TooMany
from tunehall.fewest import fewest
from tunehall.parts import joined_plan, parts_of, web_part
from tunehall.plans import fault_of
from tunehall.webs import is_web

SECONDS = 2
# Two parts whose stations do not stand together, and one alone.
MIXED = web_made(9, {(0, 3): 2, (1, 4): 1, (3, 5): 5}, 6, (511, 15, 7, 511, 1, 257))


def parts_told(web):
    """The parts by the words of point 80: ways are made ever longer."""
    count = len(web[0])
    ways = [[i == j or web[2][i][j] > 0 for j in range(count)] for i in range(count)]
    for k, i, j in itertools.product(range(count), repeat=3):
        ways[i][j] = ways[i][j] or ways[i][k] and ways[k][j]
    found = []
    for i in range(count):
        part = tuple(j for j in range(count) if ways[i][j])
        if part not in found:
            found.append(part)
    return tuple(found)


class Parts(Looking, unittest.TestCase):
    def parts(self, web, wanted):
        self.assertEqual(self.told(parts_of, web), wanted)

    def test_one_station(self):
        self.parts(web_made(3, {}, 1), ((0,),))

    def test_one_part(self):
        for count in (2, 5, 24):
            whole = (tuple(range(count)),)
            for gap in range(1, 6):
                self.parts(all_near(60, gap, count), whole)
                # A row, a ring, a star, and a row the other way about.
                self.parts(web_of_gaps(60, lambda i, j: gap if j - i == 1 else 0, count), whole)
                self.parts(ring(60, gap, count), whole)
                self.parts(web_of_gaps(60, lambda i, j: gap if j == count - 1 else 0, count), whole)

    def test_as_many_parts_as_stations(self):
        for count in (2, 5, 24):
            self.parts(web_made(60, {}, count), tuple((i,) for i in range(count)))

    def test_stations_that_do_not_stand_together(self):
        self.parts(MIXED, ((0, 3, 5), (1, 4), (2,)))
        self.parts(web_of_gaps(9, lambda i, j: 1 if (j - i) % 2 == 0 else 0, 7), ((0, 2, 4, 6), (1, 3, 5)))
        self.parts(web_of_gaps(9, lambda i, j: 1 if i + j == 23 else 0, 24), tuple((i, 23 - i) for i in range(12)))
        # A way from 0 to 1 leads by the last station.
        self.parts(web_made(9, {(0, 4): 1, (1, 4): 1, (2, 3): 1}, 5), ((0, 1, 4), (2, 3)))
        self.parts(web_made(9, {(2, 3): 1, (0, 3): 1, (0, 1): 1}, 4), ((0, 1, 2, 3),))

    def test_lists_are_nothing_to_it(self):
        self.parts((*MIXED[:3], (0,) * 6), ((0, 3, 5), (1, 4), (2,)))

    def test_by_the_words_of_the_point(self):
        chance = random.Random(80)
        for _ in range(200):
            dense = chance.choice((0.05, 0.1, 0.3))
            web = web_of_gaps(9, lambda i, j: chance.randint(0, 5) if chance.random() < dense else 0,
                              chance.randint(1, 15))
            self.parts(web, parts_told(web))


class WebPart(Looking, unittest.TestCase):
    def test_the_web_of_some_stations(self):
        self.assertEqual(
            self.told(web_part, MIXED, (0, 3, 5)),
            (("s0", "s3", "s5"), 9, ((0, 2, 0), (2, 0, 5), (0, 5, 0)), (511, 511, 257)))
        self.assertEqual(self.told(web_part, MIXED, (1, 4)), (("s1", "s4"), 9, ((0, 1), (1, 0)), (15, 1)))
        self.assertEqual(self.told(web_part, MIXED, (2,)), (("s2",), 9, ((0,),), (7,)))

    def test_stations_of_no_part(self):
        self.assertEqual(
            self.told(web_part, MIXED, (2, 3, 4)),
            (("s2", "s3", "s4"), 9, ((0, 0, 0), (0, 0, 0), (0, 0, 0)), (7, 511, 1)))
        self.assertEqual(self.told(web_part, MIXED, (3, 5)), (("s3", "s5"), 9, ((0, 5), (5, 0)), (511, 257)))

    def test_all_stations(self):
        for web in (MIXED, web_made(1, {}, 1), all_near(60, 5, 24)):
            self.assertEqual(self.told(web_part, web, tuple(range(len(web[0])))), web)

    def test_by_the_words_of_the_point(self):
        chance = random.Random(81)
        for _ in range(100):
            web = random_web(chance, chance.randint(1, 24), chance.randint(1, 60))
            count = len(web[0])
            stations = tuple(sorted(chance.sample(range(count), chance.randint(1, count))))
            names, many, gaps, lists = found = self.told(web_part, web, stations)
            self.assertIs(is_web(found), True)
            self.assertEqual(many, web[1])
            for a, i in enumerate(stations):
                self.assertEqual((names[a], lists[a]), (web[0][i], web[3][i]))
                self.assertEqual([gaps[a][b] for b in range(len(stations))], [web[2][i][j] for j in stations])

    def test_what_is_no_tuple_of_stations(self):
        for stations in ((), [], [0], [0, 1], (1, 0), (0, 2, 1), (0, 0), (0, 1, 1), (-1,), (-1, 0), (6,), (0, 6),
                         (5, 6), (0, 10 ** 900), (True,), (0, True), (False, 1), (0, None), (0, "1"), ("s0",), (0.0,),
                         ((0,),), ([0],), "01", {0: 0}, {0, 1}, range(2), 0, None):
            self.refused(BadPlan, web_part, MIXED, stations)

    def test_things_of_other_kinds(self):
        for thing in THINGS:
            self.refused(BadPlan, web_part, MIXED, thing)
            if thing.__class__ is not int:
                self.refused(BadPlan, web_part, MIXED, (thing,))
                self.refused(BadPlan, web_part, MIXED, (0, thing))
                self.refused(BadPlan, web_part, MIXED, (thing, 5))


class JoinedPlans(Looking, unittest.TestCase):
    def test_joined(self):
        self.assertEqual(self.told(joined_plan, MIXED, [(0, 2, 8), (1, 0), (2,)]), (0, 1, 2, 2, 0, 8))
        self.assertEqual(self.told(joined_plan, MIXED, [(1, 2, 3), (4, 5), (6,)]), (1, 4, 6, 2, 5, 3))
        self.assertEqual(self.told(joined_plan, web_made(1, {}, 1), [(0,)]), (0,))
        whole = tuple(range(24))
        self.assertEqual(self.told(joined_plan, all_near(60, 1, 24), [whole]), whole)
        self.assertEqual(self.told(joined_plan, web_made(60, {}, 24), [(i,) for i in whole]), whole)

    def test_a_plan_that_is_not_good_is_joined_too(self):
        plan = self.told(joined_plan, MIXED, [(0, 0, 0), (8, 8), (8,)])
        self.assertEqual(plan, (0, 8, 8, 0, 8, 0))
        self.assertIsNotNone(fault_of(MIXED, plan))

    def test_good_just_where_each_is(self):
        chance = random.Random(82)
        seen = set()
        for _ in range(300):
            many = chance.randint(2, 9)
            lists = [chance.choice((2 ** many - 1, chance.randrange(2 ** many))) for _ in range(6)]
            web = web_of_gaps(many, lambda i, j: chance.choice((0, 0, 0, 0, 1, 2)), 6, lists)
            parts = parts_told(web)
            plans, good = [], []
            for part in parts:
                plans.append(tuple(chance.randrange(many) for _ in part))
                try:
                    if chance.random() < 0.8:
                        plans[-1] = fewest(web_part(web, part))[1]
                except (NoPlan, TooMany):
                    pass
                good.append(is_good(web_part(web, part), plans[-1]))
            joined = self.told(joined_plan, web, plans)
            for part, plan in zip(parts, plans):
                self.assertEqual(tuple(joined[i] for i in part), plan)
            self.assertEqual(is_good(web, joined), all(good))
            self.assertEqual(max(joined), max(map(max, plans)))
            seen.add(all(good))
        self.assertEqual(seen, {False, True})

    def test_the_fewest_of_the_parts(self):
        web = web_of_gaps(60, lambda i, j: 1 if j < 5 and j - i in (1, 4) else 3 if i >= 5 else 0, 7)
        plans = [fewest(web_part(web, part)) for part in parts_of(web)]
        joined = joined_plan(web, [plan for _, plan, _ in plans])
        self.assertIs(fault_of(web, joined), None)
        self.assertEqual([many for many, _, _ in plans], [3, 4])
        self.assertEqual(fewest(web)[0], max(joined) + 1)

    def test_what_is_no_list_of_plans(self):
        good = [(0, 2, 8), (1, 0), (2,)]
        for plans in (good[:2], good[1:], [], good + [(0,)], good + [()], good * 2, tuple(good), None, (), {},
                      dict(enumerate(good)), "abc", iter(good), [(0, 2, 8, 1, 0, 2)], [good[1], good[0], good[2]],
                      [*good[:2], 2], [*good[:2], [2]], [*good[:2], None]):
            self.refused(BadPlan, joined_plan, MIXED, plans)

    def test_plans_that_are_none_of_their_parts(self):
        good = ((0, 2, 8), (1, 0), (2,))
        for at in range(3):
            plan = good[at]
            for other in (plan[:-1], plan + (0,), list(plan), (plan,), ()):
                self.refused(BadPlan, joined_plan, MIXED, list(with_other(good, at, other)))
            for k in range(len(plan)):
                for tune in (-1, 9, 10, 10 ** 900, True, False, None, "1", 1.0, (1,)):
                    self.refused(BadPlan, joined_plan, MIXED, list(with_other(good, at, with_other(plan, k, tune))))

    def test_things_of_other_kinds(self):
        good = ((0, 2, 8), (1, 0), (2,))
        for thing in THINGS:
            self.refused(BadPlan, joined_plan, MIXED, thing)
            for at in range(3):
                self.refused(BadPlan, joined_plan, MIXED, list(with_other(good, at, thing)))
            if thing.__class__ is not int:
                self.refused(BadPlan, joined_plan, web_made(3, {}, 1), [(thing,)])

    def test_what_is_handed_in_may_be_changed_later(self):
        plans = [(0, 2, 8), (1, 0), (2,)]
        joined = joined_plan(MIXED, plans)
        plans[0] = (8, 8, 8)
        self.assertEqual(joined, (0, 1, 2, 2, 0, 8))


class Quickness(unittest.TestCase):
    def test_twenty_four_stations_at_once(self):
        start = time.perf_counter()
        for web in (all_near(60, 5, 24), web_made(60, {}, 24), ring(60, 1, 24)):
            parts = parts_of(web)
            joined_plan(web, [(0,) * len(part) for part in parts])
        self.assertLess(time.perf_counter() - start, SECONDS)


if __name__ == "__main__":
    unittest.main()
