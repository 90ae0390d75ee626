"""The fewest tunes: fewest and without of tunehall/fewest.py, points 1, 60 and 61."""

import random
import time
import unittest

from tests.made import Looking, all_near, good_plans, is_good, random_web, ring, tunes_left, web_made, web_of_gaps
from tunehall.errors import NoPlan, TooMany
from tunehall.fewest import fewest, shows, without

# What is told at once takes far less; a slow machine is given some more.
SECONDS = 2
ALL = 2 ** 60 - 1


def greatest_need(web):
    """The greatest need of a crowd, by point 50."""
    names, _, gaps, _ = web
    best = 0
    for gap in range(1, 6):
        crowds = [()]
        for i in range(len(names)):
            crowds += [(*crowd, i) for crowd in crowds if all(gaps[i][j] >= gap for j in crowd)]
        best = max(best, (max(map(len, crowds)) - 1) * gap + 1)
    return best


def cases_told(web, many, most=4000):
    """(how many cases there are for a number, whether a plan is found), by the words of point 61."""
    cases = 0

    def look(given):
        nonlocal cases
        left = {i: tunes_left(web, given, i, many) for i, tune in enumerate(given) if tune is None}
        if not left:
            return True
        i = min(left, key=lambda j: (len(left[j]), j))
        if left[i]:
            cases += 1
        if cases > most:
            return False
        return any(look([*given[:i], tune, *given[i + 1:]]) for tune in left[i])

    found = look([None] * len(web[0]))
    return cases, found


def loose_ahead(ones, sizes, gate=()):
    """Stations that hang loosely ahead of five that all are near and may have four tunes.

    With a gate the first station is one that lets the last one have a fifth tune, but not at first.
    """
    lists = [1] * ones + [2 ** size - 1 for size in sizes] + [15] * 5
    gaps = {(i, j): 1 for j in range(len(lists)) for i in range(j) if i >= len(lists) - 5}
    if gate:
        lists = [0b1100000] + lists[:-1] + [0b101111]
        gaps = {(i + 1, j + 1): 1 for i, j in gaps}
        gaps[(0, len(lists) - 1)] = 1
    return web_made(7, gaps, len(lists), lists)


class Fewest(Looking, unittest.TestCase):
    def fewest(self, web, wanted):
        """So many are the fewest tunes, and what is told with them holds."""
        many, plan, shown = told = self.told(fewest, web)
        self.assertEqual([part.__class__ for part in told[:2]], [int, tuple])
        self.assertEqual(many, wanted)
        self.assertTrue(is_good(web, plan))
        self.assertEqual(len(plan), len(web[0]))
        self.assertLess(max(plan), many)
        self.assertGreaterEqual(min(plan), 0)
        if many == 1:
            self.assertIs(shown, None)
        else:
            self.assertIs(shows(web, many - 1, shown), True)
            self.assertIs(shows(web, many, shown), False)
        self.assertIs(self.told(without, web), None)
        return plan, shown

    def no_plan(self, web):
        self.refused(NoPlan, fewest, web)
        shown = self.told(without, web)
        self.assertIs(shows(web, web[1], shown), True)
        return shown

    def too_many(self, web):
        self.refused(TooMany, fewest, web)
        self.refused(TooMany, without, web)


class Small(Fewest):
    def test_one_station(self):
        for many in (1, 2, 60):
            plan, shown = self.fewest(web_made(many, {}, 1), 1)
            self.assertEqual((plan, shown), ((0,), None))

    def test_one_station_that_may_have_one_tune(self):
        for tune in (0, 1, 5, 58, 59):
            plan, shown = self.fewest(web_made(60, {}, 1, (1 << tune,)), tune + 1)
            self.assertEqual(plan, (tune,))
            self.assertEqual(shown, ("none", 0) if tune else None)
        self.fewest(web_made(6, {}, 1, (0b101000,)), 4)

    def test_one_station_that_may_have_none(self):
        for many in (1, 2, 60):
            self.assertEqual(self.no_plan(web_made(many, {}, 1, [0])), ("none", 0))

    def test_many_of_one(self):
        plan, shown = self.fewest(web_made(1, {}, 3), 1)
        self.assertEqual((plan, shown), ((0, 0, 0), None))
        self.assertEqual(self.no_plan(web_made(1, {(0, 2): 1}, 3)), ("crowd", 1, (0, 2)))
        self.no_plan(web_made(1, {}, 3, (1, 0, 1)))

    def test_gaps_of_nought_alone(self):
        for count in (2, 5, 24):
            plan, shown = self.fewest(web_made(60, {}, count), 1)
            self.assertEqual((plan, shown), ((0,) * count, None))
        self.fewest(web_made(9, {}, 3, (0b110, 0b1000, 0b111)), 4)

    def test_a_crowd_tells_the_number(self):
        for gap in range(1, 6):
            for count in (2, 3, 4):
                self.fewest(all_near(60, gap, count), (count - 1) * gap + 1)
        self.fewest(web_made(9, {(0, 1): 5, (1, 2): 2}, 3), 6)

    def test_a_crowd_needs_more_than_all_tunes(self):
        for gap in range(1, 6):
            self.no_plan(all_near(3 * gap, gap, 4))
            self.fewest(all_near(3 * gap + 1, gap, 4), 3 * gap + 1)

    def test_a_ring_wants_more_than_any_crowd(self):
        for gap in range(1, 6):
            web = ring(60, gap)
            self.assertEqual(greatest_need(web), gap + 1)
            self.fewest(web, 2 * gap + 1)
        self.fewest(ring(60, 1, 6), 2)
        self.fewest(ring(60, 1, 7), 3)
        self.no_plan(ring(2, 1))

    def test_lists_want_more_than_any_crowd(self):
        web = web_made(60, {(0, 1): 2}, 2, (0b11, 0b11 | 1 << 40))
        self.fewest(web, 41)
        self.no_plan(web[:3] + ((0b11, 0b11),))
        self.no_plan(web_made(60, {(0, 1): 2, (1, 2): 1}, 3, (1, 1, ALL)))
        self.fewest(web_made(60, {(0, 1): 2, (1, 2): 1}, 3, (1, 1 << 2, 1 << 59)), 60)

    def test_all_plans_gone_through(self):
        chance = random.Random(60)
        seen = set()
        for _ in range(500):
            many = chance.randint(1, 7)
            web = random_web(chance, chance.randint(1, 4), many)
            wanted = next((m for m in range(1, many + 1) if any(good_plans(web, m))), None)
            if wanted is None:
                self.no_plan(web)
            else:
                self.fewest(web, wanted)
            seen.add((wanted or 0) - greatest_need(web) if wanted else None)
        self.assertLessEqual({None, 0, 1}, seen)

    def test_more_tunes_told_change_nothing_of_the_fewest(self):
        chance = random.Random(61)
        for _ in range(100):
            web = random_web(chance, chance.randint(1, 6), chance.randint(6, 12))
            try:
                told = fewest(web)
            except NoPlan:
                continue
            for more in (1, 7, 60 - web[1]):
                same = (web[0], web[1] + more, *web[2:])
                self.assertEqual(fewest(same), told)
                # Nor do tunes that are let, but stand behind all that are wanted.
                wider = tuple(bits | (2 ** more - 1) << web[1] for bits in web[3])
                self.assertEqual(fewest((*same[:3], wider)), told)

    def test_whatever_the_names_are(self):
        chance = random.Random(62)
        for _ in range(50):
            web = random_web(chance, 5, 12)
            names = ["", "tunes", "A b", "0", "zz" * 50]
            chance.shuffle(names)
            named = (tuple(names), *web[1:])
            try:
                self.assertEqual(fewest(named), fewest(web))
            except NoPlan:
                self.refused(NoPlan, fewest, named)
            self.assertEqual(without(named), without(web))


class Cases(Fewest):
    """How many cases point 61 lets be gone through."""

    def test_loose_stations_ahead_of_a_ring(self):
        for loose in range(20):
            web = web_of_gaps(2, lambda i, j: 1 if i >= loose and j - i in (1, 4) else 0, loose + 5)
            cases, found = cases_told(web, 2)
            self.assertFalse(found)
            if cases > 3000:
                self.too_many(web)
            else:
                self.no_plan(web)
            if loose in (8, 9):
                self.assertEqual(cases > 3000, loose == 9)

    def test_loose_stations_behind_a_ring(self):
        for loose in range(20):
            web = web_of_gaps(2, lambda i, j: 1 if j < 5 and j - i in (1, 4) else 0, loose + 5)
            self.no_plan(web)
            self.fewest((web[0], 3, web[2], (7,) * (loose + 5)), 3)

    def test_just_three_thousand_that_show_it(self):
        web = loose_ahead(9, (2, 2, 2, 3, 3))
        self.assertEqual(cases_told(web, 7), (3000, False))
        self.no_plan(web)

    def test_one_more_than_three_thousand_that_show_it(self):
        web = loose_ahead(10, (2, 2, 2, 3, 3))
        self.assertEqual(cases_told(web, 7), (3001, False))
        self.too_many(web)

    def test_just_three_thousand_till_a_plan_is_found(self):
        web = loose_ahead(11, (2, 3, 3, 4), "gate")
        self.assertEqual(cases_told(web, 7), (3000, True))
        self.fewest(web, 7)

    def test_one_more_than_three_thousand_till_a_plan_is_found(self):
        web = loose_ahead(12, (2, 3, 3, 4), "gate")
        self.assertEqual(cases_told(web, 7), (3001, True))
        self.too_many(web)

    def test_too_many_for_a_lesser_number_alone(self):
        # With a fifth tune all is found at once, so without has few cases; fewest has to try four ahead of it.
        web = loose_ahead(10, (2, 2, 2, 3, 3))
        lists = web[3][:-1] + (0b1001111,)
        web = (*web[:3], lists)
        self.assertEqual([cases_told(web, many)[0] > 3000 for many in (5, 6, 7)], [True, True, False])
        self.refused(TooMany, fewest, web)
        self.assertIs(self.told(without, web), None)

    def test_numbers_below_the_greatest_need_are_not_tried(self):
        # For four tunes there were too many cases, if they were tried.
        web = loose_ahead(0, (3,) * 8)
        web = (web[0], 5, web[2], tuple(31 if bits == 15 else bits for bits in web[3]))
        self.assertGreater(cases_told(web, 4)[0], 3000)
        _, shown = self.fewest(web, 5)
        self.assertEqual(shown, ("crowd", 1, (8, 9, 10, 11, 12)))
        # Nor all tunes, where a crowd needs more.
        web = (web[0], 4, web[2], tuple(bits & 15 for bits in web[3]))
        self.assertEqual(self.no_plan(web), ("crowd", 1, (8, 9, 10, 11, 12)))

    def test_by_the_words_of_the_point(self):
        chance = random.Random(63)
        seen = set()
        for _ in range(100):
            web = random_web(chance, chance.randint(6, 16), chance.randint(4, 9))
            need = greatest_need(web)
            kind, asked = "none", web[1] + 1
            for many in range(need, web[1] + 1):
                cases, found = cases_told(web, many)
                if cases > 3000 or found:
                    kind, asked = "many" if cases > 3000 else "found", many
                    break
            seen.add(kind)
            if kind == "found":
                self.assertEqual(fewest(web)[0], asked)
            else:
                self.refused(TooMany if kind == "many" else NoPlan, fewest, web)
        self.assertEqual(seen, {"none", "many", "found"})


class Quickness(Fewest):
    def setUp(self):
        self.start = time.perf_counter()

    def tearDown(self):
        self.assertLess(time.perf_counter() - self.start, 10 * SECONDS)

    def at_once(self, web, wanted):
        start = time.perf_counter()
        try:
            many = fewest(web)[0]
        except NoPlan:
            many = None
        self.assertLess(time.perf_counter() - start, SECONDS)
        if wanted is not None:
            self.assertEqual(many, wanted)
        if many is not None:
            self.fewest(web, many)

    def test_all_near(self):
        for gap in (1, 2):
            self.at_once(all_near(60, gap, 24), 23 * gap + 1)
        for gap in (3, 4, 5):
            web = all_near(60, gap, 24)
            self.at_once(web, None)
            self.assertEqual(self.no_plan(web), ("crowd", gap, tuple(range(24))))

    def test_none_near(self):
        self.at_once(web_made(60, {}, 24), 1)
        self.at_once(web_made(60, {}, 24, [1 << i for i in range(24)]), 24)

    def test_each_near_to_some(self):
        for gap in range(1, 6):
            self.at_once(ring(60, gap, 24), gap + 1)
            self.at_once(web_of_gaps(60, lambda i, j: gap if j - i <= 3 else 0, 24), 3 * gap + 1)
            self.at_once(web_of_gaps(60, lambda i, j: gap if i // 4 == j // 4 else 0, 24), 3 * gap + 1)
            # Of a rectangle of 4 by 6: neighbours keep apart.
            near = {(i, i + 1): gap for i in range(23) if i % 6 < 5}
            near.update({(i, i + 6): gap for i in range(18)})
            self.at_once(web_made(60, near, 24), gap + 1)

    def test_too_many_within_some_seconds(self):
        web = web_of_gaps(60, lambda i, j: 5 if i >= 14 else 0, 24, [ALL] * 14 + [2 ** 30 - 1] * 10)
        start = time.perf_counter()
        self.refused(TooMany, fewest, web)
        self.assertLess(time.perf_counter() - start, 3 * SECONDS)


if __name__ == "__main__":
    unittest.main()
