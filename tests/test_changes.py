"""Elder plans and the fewest changes: tunehall/changes.py, points 1, 100 and 101."""

import itertools
import random
import time
import unittest

from tests.made import THINGS, Looking, all_near, good_plans, is_good, random_web, ring, web_made, web_of_gaps
from tunehall.changes import changes_of, least_changed, need_elder, shows_least
from tunehall.errors import BadPlan, NoPlan, TooMany
from tunehall.fewest import fewest

SECONDS = 2
WEB = web_made(5, {(0, 1): 2, (1, 2): 1}, 3)
NO_ELDERS = (
    (), (0, 2), (0, 2, 1, 0), (0, 2, 1, None), [0, 2, 1], [None] * 3, (0, 2, 60), (61, 2, 1), (0, -1, 1), (0, 2, True),
    (False, None, 1), (0, "2", 1), (0, 2.0, 1), (0, (2,), 1), (0, [None], 1), ((0, 2, 1),), (0, 2, 10 ** 900),
    (0, 2, -10 ** 900), "021", None, {0: 0, 1: 2, 2: 1},
    *(thing for thing in THINGS if thing.__class__ is not tuple or len(thing) != 3))
NO_PLANS = (
    (), (0, 2), (0, 2, 1, 0), [0, 2, 1], (0, 2, 5), (0, -1, 1), (0, 2, True), (0, 2, None), (None,) * 3, None, *THINGS)


def changed(elder, plan):
    return sum(old is not None and old != tune for old, tune in zip(elder, plan))


def random_elder(chance, count, many):
    """Some elder plan, with None here and there, and tunes that are none of the web now and then."""
    return tuple(
        chance.choice((None, chance.randrange(many), chance.randrange(many), chance.randrange(many),
                       chance.randint(0, 59)))
        for _ in range(count))


class Elders(Looking, unittest.TestCase):
    def test_elder_plans(self):
        for elder in ((0, 2, 1), (None, None, None), (0, None, 1), (59, 59, 59), (5, 6, 58), (0, 0, 0), (None, 59,
                                                                                                         None)):
            self.assertIs(self.told(need_elder, WEB, elder), None)
        self.assertIs(need_elder(web_made(1, {}, 1), (59,)), None)
        self.assertIs(need_elder(web_made(60, {}, 24), (None,) * 24), None)
        self.assertIs(need_elder(web_made(60, {}, 24), tuple(range(36, 60))), None)

    def test_no_elder_plans(self):
        for elder in NO_ELDERS:
            self.refused(BadPlan, need_elder, WEB, elder)
            self.refused(BadPlan, changes_of, WEB, elder, (0, 2, 1))
            self.refused(BadPlan, least_changed, WEB, elder, 5)
            self.refused(BadPlan, shows_least, WEB, elder, 5, 0, None)
            self.refused(BadPlan, shows_least, WEB, elder, 5, 1, ("none", 0))
        for many in (1, 2, 59, 60):
            web = web_made(many, {}, 1)
            self.refused(BadPlan, need_elder, web, (60,))
            self.refused(BadPlan, need_elder, web, (-1,))
            self.refused(BadPlan, need_elder, web, (None, None))

    def test_no_elder_plan_of_one_other_thing(self):
        for at in range(3):
            for thing in THINGS:
                if thing is not None and (thing.__class__ is not int or not 0 <= thing < 60):
                    elder = [0, None, 1]
                    elder[at] = thing
                    self.refused(BadPlan, need_elder, WEB, tuple(elder))


class Changes(Looking, unittest.TestCase):
    def changes(self, elder, plan, wanted):
        found = self.told(changes_of, WEB, elder, plan)
        self.assertEqual(found, wanted)
        self.assertIs(found.__class__, int)

    def test_changes(self):
        self.changes((0, 2, 1), (0, 2, 1), 0)
        self.changes((0, 2, 1), (1, 2, 1), 1)
        self.changes((0, 2, 1), (1, 3, 0), 3)
        self.changes((None, None, None), (1, 3, 0), 0)
        self.changes((None, 2, None), (1, 3, 0), 1)
        self.changes((None, 3, None), (1, 3, 0), 0)
        self.changes((0, None, 0), (0, 4, 4), 1)

    def test_tunes_of_nought_are_tunes(self):
        self.changes((0, 0, 0), (0, 0, 0), 0)
        self.changes((0, 0, 0), (1, 0, 1), 2)
        self.changes((None, 0, 1), (0, 1, 1), 1)

    def test_tunes_that_are_none_of_the_web(self):
        self.changes((5, 59, 7), (0, 0, 0), 3)
        self.changes((5, None, 4), (4, 0, 4), 1)

    def test_plans_need_not_be_good(self):
        self.changes((0, 2, 1), (0, 0, 0), 2)

    def test_no_plans(self):
        for plan in NO_PLANS:
            self.refused(BadPlan, changes_of, WEB, (0, None, 1), plan)
            for elder in ((0, 2), None, (0, 2, 60)):
                self.refused(BadPlan, changes_of, WEB, elder, plan)


class Least(Looking, unittest.TestCase):
    def least(self, web, elder, many, wanted):
        """The fewest changes are so many, and what is told with them holds."""
        count, plan, shown = told = self.told(least_changed, web, elder, many)
        self.assertEqual([part.__class__ for part in told[:2]], [int, tuple])
        self.assertEqual(count, wanted)
        self.assertTrue(is_good(web, plan))
        self.assertLess(max(plan), many)
        self.assertEqual(changes_of(web, elder, plan), count)
        self.assertIs(self.told(shows_least, web, elder, many, count, shown), True)
        self.assertIs(shows_least(web, elder, many, count + 1, shown), False)
        if count == 0:
            self.assertIs(shown, None)
        else:
            for fewer in range(1, count):
                self.assertIs(shows_least(web, elder, many, fewer, shown), True)
            self.assertIs(shows_least(web, elder, many, 0, shown), False)
        return plan, shown

    def test_nothing_changes(self):
        self.least(WEB, (0, 2, 1), 5, 0)
        self.least(WEB, (0, 2, 1), 3, 0)
        self.least(WEB, (None, None, None), 5, 0)
        self.least(WEB, (None, 2, None), 5, 0)
        self.least(web_made(1, {}, 1), (0,), 1, 0)
        self.least(web_made(1, {}, 1), (None,), 1, 0)

    def test_one_change(self):
        plan, shown = self.least(web_made(9, {}, 1, (0b10,)), (0,), 9, 1)
        self.assertEqual((plan, shown), ((1,), ("dear", (0,))))
        self.least(WEB, (0, 0, 1), 5, 1)
        self.least(WEB, (0, 1, 1), 5, 1)
        self.least(WEB, (0, 2, 2), 5, 1)
        self.least(WEB, (0, 0, None), 5, 1)
        self.least(web_made(9, {}, 24), (3,) * 23 + (9,), 9, 1)

    def test_a_tune_at_the_number_or_above_is_changed(self):
        self.least(WEB, (4, 2, 1), 5, 0)
        self.least(WEB, (4, 2, 1), 4, 1)
        self.least(WEB, (5, 2, 1), 5, 1)
        self.least(WEB, (59, 58, 57), 5, 3)
        self.least(web_made(1, {}, 3), (0, 1, 59), 1, 2)

    def test_the_one_near_all_changes_or_all_others(self):
        star = {(0, i): 1 for i in range(1, 6)}
        self.least(web_made(6, star, 6), (0,) * 6, 6, 1)
        self.least(web_made(6, star, 6, (1,) + (63,) * 5), (0,) * 6, 6, 5)
        self.least(web_made(6, star, 6), (0,) + (None,) * 5, 6, 0)

    def test_pairs_that_have_one_tune(self):
        pairs = {(0, 1): 1, (2, 3): 2, (4, 5): 3}
        self.least(web_made(6, pairs, 6), (0, 0, 1, 1, 2, 2), 6, 3)
        self.least(web_made(6, pairs, 6), (0, 0, 1, 1, 2, 5), 6, 2)
        self.least(web_made(6, pairs, 6), (0, 0, 1, 3, 2, None), 6, 1)

    def test_fewer_tunes_want_more_changes(self):
        web = ring(9, 1, 6)
        elder = (0, 1, 2, 0, 1, 2)
        self.least(web, elder, 3, 0)
        self.least(web, elder, 2, 4)
        self.refused(NoPlan, least_changed, web, elder, 1)

    def test_no_plan(self):
        self.refused(NoPlan, least_changed, WEB, (0, 2, 1), 2)
        self.refused(NoPlan, least_changed, WEB, (None,) * 3, 2)
        self.refused(NoPlan, least_changed, web_made(9, {}, 1, (0,)), (0,), 9)
        self.refused(NoPlan, least_changed, web_made(9, {}, 1, (0b100,)), (2,), 2)
        self.refused(NoPlan, least_changed, ring(2, 1), (0, 1, 0, 1, 0), 2)
        self.refused(NoPlan, least_changed, all_near(60, 5, 24), (0,) * 24, 60)

    def test_all_plans_gone_through(self):
        chance = random.Random(101)
        seen = set()
        for _ in range(500):
            count, most = chance.randint(1, 5), chance.randint(1, 6)
            web, many = random_web(chance, count, most), chance.randint(1, most)
            elder = random_elder(chance, count, most)
            wanted = min((changed(elder, plan) for plan in good_plans(web, many)), default=None)
            seen.add(wanted)
            if wanted is None:
                self.refused(NoPlan, least_changed, web, elder, many)
            else:
                self.least(web, elder, many, wanted)
        self.assertLessEqual({None, 0, 1, 2, 3, 4}, seen)

    def test_never_too_many_of_six_stations_with_six_tunes(self):
        chance = random.Random(102)
        start = time.perf_counter()
        for _ in range(300):
            web = random_web(chance, 6, chance.randint(6, 60))
            elder = random_elder(chance, 6, 6)
            for many in (6, chance.randint(1, 5)):
                try:
                    count, plan, shown = least_changed(web, elder, many)
                except NoPlan:
                    continue
                self.assertTrue(is_good(web, plan))
                self.assertEqual(changed(elder, plan), count)
                self.assertIs(shows_least(web, elder, many, count, shown), True)
        for elder in itertools.product((None, 0, 7), repeat=6):
            least_changed(web_of_gaps(6, lambda i, j: int(j - i in (1, 3)), 6), elder, 6)
        self.assertLess(time.perf_counter() - start, 10 * SECONDS)

    def test_never_too_many_of_two_stations(self):
        for gap in range(6):
            web = web_made(60, {(0, 1): gap}, 2)
            self.least(web, (30, 30), 60, int(gap > 0))
            self.least(web, (30, 34), 60, int(gap > 4))
            self.least(web, (30, 35), 60, 0)
            self.least(web, (None, 59), 60, 0)
            # With one list that lets the elder tunes neither be kept.
            narrow = (*web[:3], (2 ** 60 - 1 - 2 ** 30,) * 2)
            self.least(narrow, (30, 30), 60, 2)
            self.least((*web[:3], (1 << 30, 2 ** 60 - 1)), (30, 30), 60, int(gap > 0))

    def test_whatever_the_names_are(self):
        chance = random.Random(103)
        for _ in range(50):
            web = random_web(chance, 5, 6)
            elder = random_elder(chance, 5, 6)
            named = (("", "b", "A", "s0", "near"), *web[1:])
            try:
                told = least_changed(web, elder, 6)
            except NoPlan:
                self.refused(NoPlan, least_changed, named, elder, 6)
                continue
            self.assertEqual(least_changed(named, elder, 6), told)

    def test_no_number_of_tunes(self):
        for many in (0, -1, 6, 7, 60, 61, 10 ** 900, True, False, None, "5", 5.0, (5,), [5], *THINGS):
            if many.__class__ is not int or not 1 <= many <= 5:
                self.refused(BadPlan, least_changed, WEB, (0, 2, 1), many)
                # Ahead of that none is good; and an elder plan that is none is refused so, too.
                self.refused(BadPlan, least_changed, web_made(5, {(0, 1): 5}, 3), (0, 2, 1), many)
                self.refused(BadPlan, least_changed, WEB, (0, 2), many)
                self.refused(BadPlan, shows_least, WEB, (0, 2, 1), many, 0, None)
                self.refused(BadPlan, shows_least, WEB, (0, 2, 1), many, -1, None)
        for elder in NO_ELDERS:
            self.refused(BadPlan, least_changed, web_made(5, {(0, 1): 5}, 3), elder, 5)


class Large(Looking, unittest.TestCase):
    def at_once(self, web, elder, many, wanted, seconds=SECONDS):
        start = time.perf_counter()
        count, plan, shown = least_changed(web, elder, many)
        self.assertLess(time.perf_counter() - start, seconds)
        self.assertTrue(is_good(web, plan))
        self.assertEqual(changed(elder, plan), count)
        self.assertIs(shows_least(web, elder, many, count, shown), True)
        if wanted is not None:
            self.assertEqual(count, wanted)

    def test_twenty_four_stations(self):
        whole = tuple(range(24))
        self.at_once(all_near(60, 1, 24), whole, 60, 0)
        self.at_once(all_near(60, 1, 24), whole[:23] + (0,), 60, 1)
        self.at_once(all_near(60, 2, 24), tuple(2 * i for i in whole[:23]) + (45,), 60, 1)
        self.at_once(web_made(60, {}, 24), (0,) * 24, 60, 0)
        self.at_once(web_made(60, {}, 24), (59,) * 24, 59, 24)
        self.at_once(ring(60, 5, 24), (0, 5) * 12, 60, 0)
        self.at_once(ring(60, 5, 24), (0, 5) * 11 + (0, 4), 60, 1)
        self.at_once(ring(60, 1, 24), (None,) * 24, 60, 0)

    def test_it_may_be_too_many_but_within_some_seconds(self):
        for web, count in ((web_of_gaps(60, lambda i, j: 1 if j - i == 1 and i % 2 == 0 else 0, 24), 12),
                           (all_near(60, 1, 24), 23), (ring(60, 5, 23), None)):
            start = time.perf_counter()
            try:
                self.at_once(web, (0,) * len(web[0]), 60, count, 3 * SECONDS)
            except TooMany:
                self.assertLess(time.perf_counter() - start, 3 * SECONDS)
                self.refused(TooMany, least_changed, web, (0,) * len(web[0]), 60)

    def test_a_few_tunes_barred(self):
        chance = random.Random(104)
        for _ in range(20):
            web = random_web(chance, 24, 12)
            try:
                plan = fewest(web)[1]
            except (NoPlan, TooMany):
                continue
            lists = list(web[3])
            for i in chance.sample(range(24), 2):
                lists[i] &= ~(1 << plan[i])
            try:
                self.at_once((*web[:3], tuple(lists)), plan, 12, None)
            except NoPlan:
                self.refused(NoPlan, least_changed, (*web[:3], tuple(lists)), plan, 12)


if __name__ == "__main__":
    unittest.main()
