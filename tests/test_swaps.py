"""Chains, swaps and lowered plans: tunehall/swaps.py, points 1, 90 and 91."""

import random
import time
import unittest

from tests.made import THINGS, Looking, all_near, is_good, random_web, ring, tunes_left, web_made, web_of_gaps
from tunehall.errors import BadPlan, NoPlan, TooMany
from tunehall.fewest import fewest
from tunehall.swaps import chain_of, lowered, swapped

SECONDS = 2
# A row of five with gaps of 1, and one that hangs loosely.
ROW = web_made(6, {(0, 1): 1, (1, 2): 1, (2, 3): 1, (3, 4): 1}, 6)
PLAN = (0, 1, 0, 2, 1, 0)


def chain_told(web, plan, i, tune):
    """The chain by the words of point 90, found station by station till no more come to it."""
    if plan[i] == tune:
        return ()
    both, found = {plan[i], tune}, {i}
    while True:
        more = {k for k in range(len(plan)) if plan[k] in both and any(web[2][j][k] for j in found)} | found
        if more == found:
            return tuple(sorted(found))
        found = more


def swapped_told(web, plan, i, tune):
    other = {plan[i]: tune, tune: plan[i]}
    chain = chain_told(web, plan, i, tune)
    found = tuple(other[had] if k in chain else had for k, had in enumerate(plan))
    return found if is_good(web, found) else None


def lowered_told(web, plan):
    """The lowered plan by the words of point 91."""
    plan = list(plan)
    while True:
        for i, tune in enumerate(plan):
            left = tunes_left(web, [*plan[:i], None, *plan[i + 1:]], i, tune)
            if left:
                plan[i] = left[0]
                break
        else:
            return tuple(plan)


def some_good_plan(chance, web):
    """A good plan with tunes here and there, None where none was come by."""
    given = [None] * len(web[0])
    order = list(range(len(given)))
    chance.shuffle(order)
    for i in order:
        left = tunes_left(web, given, i, web[1])
        if not left:
            return None
        given[i] = chance.choice(left)
    return tuple(given)


class Chains(Looking, unittest.TestCase):
    def swap(self, web, plan, i, tune, chain, found):
        self.assertEqual(self.told(chain_of, web, plan, i, tune), chain)
        self.assertEqual(self.told(swapped, web, plan, i, tune), found)

    def test_the_tune_that_it_has(self):
        for i, tune in enumerate(PLAN):
            self.swap(ROW, PLAN, i, tune, (), PLAN)
        self.swap(web_made(1, {}, 1), (0,), 0, 0, (), (0,))

    def test_chains_of_one_station(self):
        self.swap(ROW, PLAN, 5, 1, (5,), (0, 1, 0, 2, 1, 1))
        self.swap(ROW, PLAN, 0, 5, (0,), (5, 1, 0, 2, 1, 0))
        self.swap(web_made(2, {}, 1), (1,), 0, 0, (0,), (0,))
        # Those that have the tune, but are reached over others alone.
        self.swap(web_made(6, {(0, 1): 1, (1, 2): 1}, 3), (0, 1, 2), 0, 2, (0,), (2, 1, 2))

    def test_chains_of_some(self):
        self.swap(ROW, PLAN, 0, 1, (0, 1, 2), (1, 0, 1, 2, 1, 0))
        self.swap(ROW, PLAN, 1, 0, (0, 1, 2), (1, 0, 1, 2, 1, 0))
        self.swap(ROW, PLAN, 3, 0, (2, 3), (0, 1, 2, 0, 1, 0))
        self.swap(ROW, PLAN, 4, 2, (3, 4), (0, 1, 0, 1, 2, 0))
        self.swap(ROW, PLAN, 4, 0, (4,), (0, 1, 0, 2, 0, 0))

    def test_chains_of_all(self):
        web = web_of_gaps(2, lambda i, j: 1 if j - i in (1, 23) else 0, 24)
        plan, other = (0, 1) * 12, (1, 0) * 12
        for i in (0, 1, 23):
            self.swap(web, plan, i, other[i], tuple(range(24)), other)
        self.swap(all_near(9, 1, 2), (3, 7), 0, 7, (0, 1), (7, 3))

    def test_a_way_leads_there_and_back(self):
        web = web_made(3, {(0, 3): 1, (1, 3): 1, (1, 2): 1, (2, 4): 1}, 5)
        self.swap(web, (0, 0, 1, 1, 2), 0, 1, (0, 1, 2, 3), (1, 1, 0, 0, 2))
        self.swap(web, (0, 0, 1, 1, 2), 2, 2, (2, 4), (0, 0, 2, 1, 1))

    def test_gaps_above_one(self):
        web = web_made(9, {(0, 1): 3, (1, 2): 2}, 3)
        self.swap(web, (0, 3, 0), 0, 3, (0, 1, 2), (3, 0, 3))
        self.swap(web, (0, 3, 0), 0, 1, (0,), None)
        self.swap(web, (0, 3, 0), 0, 8, (0,), (8, 3, 0))
        self.swap(web, (0, 3, 0), 2, 1, (2,), (0, 3, 1))
        self.swap(web, (0, 3, 0), 1, 2, (1,), None)
        # Both of the chain keep apart from one another, but not from a third one.
        web = web_made(9, {(0, 1): 1, (1, 2): 2}, 3)
        self.swap(web, (2, 0, 3), 0, 0, (0, 1), None)
        self.swap(web, (2, 0, 4), 0, 0, (0, 1), (0, 2, 4))

    def test_lists_that_do_not_let_the_other_tune(self):
        self.swap(web_made(3, {(0, 1): 1}, 2, (0b011, 0b111)), (0, 2), 0, 2, (0, 1), None)
        self.swap(web_made(3, {(0, 1): 1}, 2, (0b111, 0b110)), (0, 2), 0, 2, (0, 1), None)
        self.swap(web_made(3, {(0, 1): 1}, 2, (0b101, 0b101)), (0, 2), 0, 2, (0, 1), (2, 0))
        # One that is not of the chain keeps its tune, so its list is nothing to it.
        self.swap(web_made(3, {}, 2, (0b111, 0b001)), (2, 0), 0, 0, (0,), (0, 0))

    def test_by_the_words_of_the_point(self):
        chance = random.Random(90)
        seen = set()
        for _ in range(500):
            web = random_web(chance, chance.randint(1, 8), chance.randint(2, 9))
            plan = some_good_plan(chance, web)
            if plan is None:
                continue
            i, tune = chance.randrange(len(plan)), chance.randrange(web[1])
            found = swapped_told(web, plan, i, tune)
            self.swap(web, plan, i, tune, chain_told(web, plan, i, tune), found)
            seen.add(found is None)
        self.assertEqual(seen, {False, True})

    def test_swapped_twice_where_gaps_are_nought_or_one(self):
        chance = random.Random(91)
        for _ in range(200):
            web = web_of_gaps(5, lambda i, j: chance.choice((0, 0, 1)), chance.randint(1, 10))
            plan = some_good_plan(chance, web)
            if plan is None:
                continue
            i, tune = chance.randrange(len(plan)), chance.randrange(5)
            found = swapped(web, plan, i, tune)
            self.assertTrue(is_good(web, found))
            self.assertEqual(swapped(web, found, i, plan[i]), plan)


class Lowered(Looking, unittest.TestCase):
    def lowered(self, web, plan, wanted):
        found = self.told(lowered, web, plan)
        self.assertEqual(found, wanted)
        self.assertTrue(is_good(web, found))

    def test_nothing_can_be_less(self):
        for plan in ((0, 1, 0, 1, 0, 0), (1, 0, 1, 0, 1, 0), (0, 1, 2, 0, 1, 0)):
            self.lowered(ROW, plan, plan)
        self.lowered(web_made(1, {}, 1), (0,), (0,))
        self.lowered(web_made(60, {}, 1, (1 << 59,)), (59,), (59,))
        self.lowered(all_near(47, 2, 24), tuple(range(0, 48, 2)), tuple(range(0, 48, 2)))

    def test_the_first_is_lowered_first(self):
        self.lowered(all_near(9, 1, 2), (5, 6), (0, 1))
        self.lowered(all_near(9, 1, 2), (6, 5), (0, 1))
        self.lowered(all_near(9, 2, 2), (4, 2), (0, 2))
        self.lowered(all_near(9, 2, 2), (4, 0), (2, 0))
        self.lowered(web_made(60, {}, 24), tuple(range(24)), (0,) * 24)

    def test_the_least_tune_that_it_may_have(self):
        self.lowered(web_made(9, {}, 2, (0b100100000, 0b100001000)), (8, 8), (5, 3))
        self.lowered(web_made(9, {(0, 1): 3}, 2, (0b100000111, 1)), (8, 0), (8, 0))
        self.lowered(web_made(9, {(0, 1): 2}, 2, (0b100000111, 1)), (8, 0), (2, 0))

    def test_one_lowering_lets_an_earlier_one_be_lowered_again(self):
        # The first one can't go down till the second one, or the third one, did.
        self.lowered(all_near(9, 2, 2), (3, 1), (2, 0))
        web = web_made(9, {(0, 1): 1, (1, 2): 1}, 3, (0b1100, 0b110, 0b111))
        self.lowered(web, (3, 2, 1), (2, 1, 0))
        web = web_made(9, {(0, 2): 1, (1, 2): 1}, 3, (0b1010, 0b110, 0b110))
        self.lowered(web, (3, 1, 2), (1, 1, 2))
        # Though all are lowered but the first one, it stays where its list wants it to.
        web = web_made(9, {(0, 1): 1, (0, 2): 1}, 3, (0b11, 0b1, 0b101))
        self.lowered(web, (1, 0, 2), (1, 0, 0))

    def test_by_the_words_of_the_point(self):
        chance = random.Random(92)
        again = 0
        for _ in range(500):
            web = random_web(chance, chance.randint(1, 9), chance.randint(2, 20))
            plan = some_good_plan(chance, web)
            if plan is None:
                continue
            wanted = lowered_told(web, plan)
            again += wanted != plan
            self.lowered(web, plan, wanted)
        self.assertGreater(again, 100)


class Refused(Looking, unittest.TestCase):
    def no_swap(self, web, plan, i, tune):
        for asked in (chain_of, swapped):
            self.refused(BadPlan, asked, web, plan, i, tune)

    def test_what_is_no_plan(self):
        for plan in ((), PLAN[:5], PLAN + (0,), list(PLAN), (0, 1, 0, 2, 1, 6), (0, 1, 0, 2, 1, -1),
                     (0, 1, 0, 2, 1, True), (False, 1, 0, 2, 1, 0), (0, 1, 0, 2, 1, None), (None,) * 6, *THINGS):
            self.no_swap(ROW, plan, 0, 1)
            self.refused(BadPlan, lowered, ROW, plan)

    def test_plans_that_are_not_good(self):
        for web, plan in ((ROW, (0, 0, 1, 2, 1, 0)), (web_made(3, {}, 2, (7, 6)), (0, 0)), (all_near(9, 5, 2), (0, 4))):
            for i in (0, 1):
                for tune in (0, 1, 2):
                    self.no_swap(web, plan, i, tune)
            self.refused(BadPlan, lowered, web, plan)

    def test_what_is_no_station(self):
        for i in (-1, -6, 6, 7, 24, 10 ** 900, True, False, None, "0", "s0", 0.0, (0,), [0], *THINGS):
            if i.__class__ is not int or not 0 <= i < 6:
                self.no_swap(ROW, PLAN, i, 0)

    def test_what_is_no_tune(self):
        for tune in (-1, 6, 7, 59, 60, 10 ** 900, True, False, None, "0", 0.0, (0,), [0], *THINGS):
            if tune.__class__ is not int or not 0 <= tune < 6:
                self.no_swap(ROW, PLAN, 0, tune)
                # Also where the station has a tune that is like it.
                self.no_swap(ROW, PLAN, 1, tune)

    def test_several_wrong_at_once(self):
        for plan in ((0, 0, 0, 0, 0, 0), (), None, PLAN):
            for i in (-1, 6, True, None, 0):
                for tune in (-1, 6, True, None, 0):
                    if (plan, i, tune) != (PLAN, 0, 0):
                        self.no_swap(ROW, plan, i, tune)

    def test_the_ends_are_let_by(self):
        for i in (0, 5):
            for tune in (0, 5):
                self.told(chain_of, ROW, PLAN, i, tune)
                self.told(swapped, ROW, PLAN, i, tune)


class Quickness(unittest.TestCase):
    def test_twenty_four_stations_at_once(self):
        start = time.perf_counter()
        for web in (all_near(60, 1, 24), all_near(60, 2, 24), ring(60, 5, 24), web_made(60, {}, 24)):
            try:
                plan = fewest(web)[1]
            except (NoPlan, TooMany):
                self.fail("these have good plans")
            top = tuple(59 - tune for tune in plan)
            lowered(web, top)
            for i in range(24):
                for tune in range(0, 60, 7):
                    swapped(web, plan, i, tune)
        self.assertLess(time.perf_counter() - start, 2 * SECONDS)


if __name__ == "__main__":
    unittest.main()
