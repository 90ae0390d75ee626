"""The whole program: the same webs with their stations in another order, and with all tunes turned over.

Points 31, 40, 41, 50, 60, 80, 90, 100 and 101; what is told of one must be told of the other.
"""

import random
import unittest

from tests.made import is_good, random_web
from tunehall.changes import changes_of, least_changed, shows_least
from tunehall.crowds import bound_of, crowd_of
from tunehall.errors import NoPlan
from tunehall.fewest import fewest, shows, without
from tunehall.parts import joined_plan, parts_of, web_part
from tunehall.plans import fault_of, left_for
from tunehall.swaps import chain_of, lowered, swapped
from tunehall.webs import is_web


def shuffled(web, order):
    """The web with station order[k] in place k."""
    names, many, gaps, lists = web
    return (tuple(names[i] for i in order), many, tuple(tuple(gaps[i][j] for j in order) for i in order),
            tuple(lists[i] for i in order))


def turned_bits(bits, many):
    return sum(1 << many - 1 - tune for tune in range(many) if bits >> tune & 1)


def turned(web):
    """The web with all tunes turned over."""
    names, many, gaps, lists = web
    return (names, many, gaps, tuple(turned_bits(bits, many) for bits in lists))


def turned_plan(plan, many):
    return tuple(None if tune is None else many - 1 - tune for tune in plan)


def random_plan(chance, web):
    """A good plan now and then, else some plan."""
    try:
        return fewest(web)[1] if chance.random() < 0.5 else tuple(chance.randrange(web[1]) for _ in web[0])
    except NoPlan:
        return (0,) * len(web[0])


def least_or_none(web, elder, many):
    try:
        return least_changed(web, elder, many)
    except NoPlan:
        return None


class Whole(unittest.TestCase):
    def webs(self, seed, times):
        chance = random.Random(seed)
        for _ in range(times):
            yield chance, random_web(chance, chance.randint(1, 6), chance.randint(1, 6))


class Orders(Whole):
    def orders(self, seed, times=150):
        for chance, web in self.webs(seed, times):
            order = list(range(len(web[0])))
            chance.shuffle(order)
            yield chance, web, order, shuffled(web, order)

    def test_webs_and_plans(self):
        good = 0
        for chance, web, order, other in self.orders(40, 300):
            self.assertIs(is_web(other), True)
            plan = random_plan(chance, web)
            fault = fault_of(web, plan)
            good += fault is None
            self.assertEqual(fault_of(other, tuple(plan[i] for i in order)) is None, fault is None)
        self.assertGreater(good, 50)

    def test_left(self):
        for chance, web, order, other in self.orders(41):
            given = [chance.choice((None, chance.randrange(web[1]))) for _ in web[0]]
            k, many = chance.randrange(len(order)), chance.randint(0, web[1])
            given[order[k]] = None
            self.assertEqual(left_for(other, [given[i] for i in order], k, many), left_for(web, given, order[k], many))

    def test_crowds(self):
        for _, web, order, other in self.orders(50):
            for gap in range(1, 6):
                crowd = crowd_of(other, gap)
                self.assertEqual(len(crowd), len(crowd_of(web, gap)))
                self.assertTrue(all(web[2][order[i]][order[j]] >= gap for i in crowd for j in crowd if i != j))
            self.assertEqual(bound_of(other)[:2], bound_of(web)[:2])

    def test_fewest(self):
        for _, web, order, other in self.orders(60):
            shown = without(other)
            self.assertEqual(shown is None, without(web) is None)
            if shown is not None:
                self.assertIs(shows(other, web[1], shown), True)
                self.assertRaises(NoPlan, fewest, web)
                self.assertRaises(NoPlan, fewest, other)
                continue
            many, plan, _ = fewest(other)
            self.assertEqual(many, fewest(web)[0])
            self.assertTrue(is_good(web, tuple(plan[order.index(i)] for i in range(len(order)))))

    def test_parts(self):
        for _, web, order, other in self.orders(80):
            found = {frozenset(order[k] for k in part) for part in parts_of(other)}
            self.assertEqual(found, set(map(frozenset, parts_of(web))))
            plans = [tuple(order[k] % web[1] for k in part) for part in parts_of(other)]
            joined = joined_plan(other, plans)
            self.assertEqual(joined, tuple(i % web[1] for i in order))
            # All parts of another order stand for the whole.
            whole = tuple(range(len(order)))
            self.assertEqual(web_part(other, whole), other)

    def test_swaps(self):
        for chance, web, order, other in self.orders(90):
            plan = random_plan(chance, web)
            if not is_good(web, plan):
                continue
            same = tuple(plan[i] for i in order)
            k, tune = chance.randrange(len(order)), chance.randrange(web[1])
            chain = chain_of(other, same, k, tune)
            self.assertEqual(sorted(order[at] for at in chain), list(chain_of(web, plan, order[k], tune)))
            found, wanted = swapped(other, same, k, tune), swapped(web, plan, order[k], tune)
            self.assertEqual(found, None if wanted is None else tuple(wanted[i] for i in order))
            self.assertTrue(is_good(other, lowered(other, same)))

    def test_changes(self):
        for chance, web, order, other in self.orders(100):
            elder = tuple(chance.choice((None, chance.randrange(web[1]), 59)) for _ in order)
            plan = random_plan(chance, web)
            same = tuple(elder[i] for i in order)
            self.assertEqual(changes_of(other, same, tuple(plan[i] for i in order)), changes_of(web, elder, plan))
            many = chance.randint(1, web[1])
            told, wanted = least_or_none(other, same, many), least_or_none(web, elder, many)
            self.assertEqual(told and told[0], wanted and wanted[0])
            if told:
                self.assertIs(shows_least(other, same, many, told[0], told[2]), True)


class Turned(Whole):
    def test_webs_and_plans(self):
        for chance, web in self.webs(140, 300):
            self.assertIs(is_web(turned(web)), True)
            plan = random_plan(chance, web)
            self.assertEqual(fault_of(turned(web), turned_plan(plan, web[1])), fault_of(web, plan))

    def test_left(self):
        for chance, web in self.webs(141, 150):
            many = web[1]
            given = [chance.choice((None, chance.randrange(many))) for _ in web[0]]
            i = chance.randrange(len(given))
            given[i] = None
            left = left_for(turned(web), turned_plan(given, many), i, many)
            self.assertEqual(left, turned_bits(left_for(web, given, i, many), many))

    def test_crowds_and_parts(self):
        for _, web in self.webs(150, 100):
            for gap in range(1, 6):
                self.assertEqual(crowd_of(turned(web), gap), crowd_of(web, gap))
            self.assertEqual(bound_of(turned(web)), bound_of(web))
            self.assertEqual(parts_of(turned(web)), parts_of(web))

    def test_fewest(self):
        seen = set()
        for _, web in self.webs(160, 200):
            other = turned(web)
            shown = without(other)
            self.assertEqual(shown is None, without(web) is None)
            seen.add(shown is None)
            if shown is not None:
                self.assertIs(shows(other, web[1], shown), True)
                continue
            self.assertTrue(is_good(web, turned_plan(fewest(other)[1], web[1])))
            # Where all may have all tunes, nothing is told of these but how many there are.
            full = (*web[:3], (2 ** web[1] - 1,) * len(web[0]))
            self.assertEqual(turned(full), full)
        self.assertEqual(seen, {False, True})

    def test_swaps(self):
        for chance, web in self.webs(190, 200):
            many, plan = web[1], random_plan(chance, web)
            if not is_good(web, plan):
                continue
            i, tune = chance.randrange(len(plan)), chance.randrange(many)
            handed = (turned(web), turned_plan(plan, many), i, many - 1 - tune)
            self.assertEqual(chain_of(*handed), chain_of(web, plan, i, tune))
            found, wanted = swapped(*handed), swapped(web, plan, i, tune)
            self.assertEqual(found, None if wanted is None else turned_plan(wanted, many))

    def test_changes(self):
        for chance, web in self.webs(200, 150):
            many = web[1]
            elder = tuple(chance.choice((None, chance.randrange(many))) for _ in web[0])
            plan, other = random_plan(chance, web), turned_plan(elder, many)
            self.assertEqual(changes_of(turned(web), other, turned_plan(plan, many)), changes_of(web, elder, plan))
            told, wanted = least_or_none(turned(web), other, many), least_or_none(web, elder, many)
            self.assertEqual(told and told[0], wanted and wanted[0])


if __name__ == "__main__":
    unittest.main()
