"""Plans and what is left beside given tunes: tunehall/plans.py, points 1, 40 and 41."""

import copy
import itertools
import random
import unittest

from tunehall import errors
from tunehall.errors import BadPlan, TuneError
from tunehall.plans import fault_of, left_for, need_plan

OTHERS = (errors.BadText, errors.Lacking, errors.Twice, errors.BadNumber, errors.TooMany, errors.BadWeb,
          errors.BadShown, errors.NoPlan, errors.BadLine)
THINGS = (
    None, True, False, 0, 1, -1, 10 ** 900, 1.5, "", "abc", b"abc", (), [], {}, set(), frozenset((1,)), range(3),
    object(), len, tuple, TuneError("x"), {0: 0, 1: 1, 2: 2}, iter(()), NotImplemented, ...)


def web_made(many, gaps, lists=None, count=3):
    """A web of stations 0, 1 .. with these gaps, of pairs; all tunes where no lists are told."""
    rows = [[0] * count for _ in range(count)]
    for (i, j), gap in gaps.items():
        rows[i][j] = rows[j][i] = gap
    names = tuple(f"s{i}" for i in range(count))
    return (names, many, tuple(map(tuple, rows)), lists or (2 ** many - 1,) * count)


def random_web(chance, count, many):
    """Some web; chance tells its gaps and lists."""
    gaps = {pair: chance.choice((0, 0, 1, 2, 3, 4, 5)) for pair in itertools.combinations(range(count), 2)}
    return web_made(many, gaps, tuple(chance.randrange(2 ** many) for _ in range(count)), count)


def fault_told(web, plan):
    """What point 40 tells, by its words."""
    _, _, gaps, lists = web
    for i, tune in enumerate(plan):
        if lists[i] // 2 ** tune % 2 == 0:
            return ("list", i)
        for j in range(i):
            if abs(plan[j] - tune) < gaps[j][i]:
                return ("near", j, i)
    return None


def left_told(web, given, i, many):
    """What point 41 tells, by its words, as a set of tunes."""
    _, most, gaps, lists = web
    return {
        tune for tune in range(min(many, most))
        if lists[i] // 2 ** tune % 2
        and all(other is None or j == i or abs(other - tune) >= gaps[i][j] for j, other in enumerate(given))}


WEB = web_made(5, {(0, 1): 2, (1, 2): 1})


class Looking(unittest.TestCase):
    def no_plan(self, web, thing):
        for asked in (need_plan, fault_of):
            with self.assertRaises(ValueError) as caught:
                asked(web, thing)
            self.assertIs(caught.exception.__class__, BadPlan)
            self.assertIsInstance(caught.exception, TuneError)
            self.assertNotIsInstance(caught.exception, OTHERS)

    def a_plan(self, web, plan, fault):
        before = copy.deepcopy((web, plan))
        for _ in range(2):
            self.assertIs(need_plan(web, plan), None)
            found = fault_of(web, plan)
            self.assertEqual(found, fault)
            if found is not None:
                self.assertIs(found.__class__, tuple)
                self.assertEqual([part.__class__ for part in found[1:]], [int] * (len(found) - 1))
        self.assertEqual((web, plan), before)


class Plans(Looking):
    def test_plans(self):
        self.a_plan(WEB, (0, 2, 1), None)
        self.a_plan(WEB, (4, 0, 4), None)
        self.a_plan(WEB, (0, 0, 0), ("near", 0, 1))
        self.a_plan(web_made(1, {}, count=1), (0,), None)
        self.a_plan(web_made(60, {(0, 1): 5}, count=2), (54, 59), None)
        self.a_plan(web_made(60, {}, count=24), tuple(range(36, 60)), None)

    def test_too_short_and_too_long(self):
        for plan in ((), (0,), (0, 2), (0, 2, 1, 0), (0, 2, 1, None), (0, 2, 1) * 2):
            self.no_plan(WEB, plan)
        self.no_plan(web_made(3, {}, count=1), ())
        self.no_plan(web_made(3, {}, count=24), (0,) * 23)
        self.no_plan(web_made(3, {}, count=24), (0,) * 25)

    def test_lists_for_tuples(self):
        self.no_plan(WEB, [0, 2, 1])
        self.no_plan(WEB, ([0], [2], [1]))
        self.no_plan(WEB, ((0, 2, 1),))
        self.no_plan(web_made(3, {}, count=1), [0])

    def test_tunes_from_nought_to_the_last(self):
        for at in range(3):
            for tune in (-1, -5, 5, 6, 60, 10 ** 900, -10 ** 900):
                plan = [0, 2, 1]
                plan[at] = tune
                self.no_plan(WEB, tuple(plan))
        for many in (1, 2, 59, 60):
            web = web_made(many, {}, count=1)
            self.a_plan(web, (0,), None)
            self.a_plan(web, (many - 1,), None)
            self.no_plan(web, (many,))
            self.no_plan(web, (-1,))

    def test_things_of_other_kinds(self):
        for thing in THINGS:
            self.no_plan(WEB, thing)
            if thing.__class__ is not int:
                for at in range(3):
                    plan = [0, 2, 1]
                    plan[at] = thing
                    self.no_plan(WEB, tuple(plan))
                self.no_plan(web_made(3, {}, count=1), (thing,))
        self.no_plan(WEB, (0, 2, True))
        self.no_plan(WEB, (False, 2, 1))
        self.no_plan(WEB, (0, 2, None))
        self.no_plan(WEB, (None,) * 3)

    def test_what_is_refused_is_not_changed(self):
        for thing in ([0, [2], 1], {"a": [0]}, ([0], 2, 1)):
            before = copy.deepcopy(thing)
            self.no_plan(WEB, thing)
            self.assertEqual(thing, before)

    def test_what_is_no_plan_is_refused_ahead_of_a_fault(self):
        web = web_made(3, {(0, 1): 3}, (0, 0, 0))
        self.a_plan(web, (0, 0, 0), ("list", 0))
        self.no_plan(web, (0, 0))
        self.no_plan(web, (0, 0, 3))
        self.no_plan(web, (0, 0, True))


class Faults(Looking):
    def test_a_gap_that_is_kept_just_so(self):
        for gap in range(6):
            web = web_made(60, {(0, 1): gap}, count=2)
            self.a_plan(web, (59 - gap, 59), None)
            for tune in (0, 20, 53):
                self.a_plan(web, (tune, tune + gap), None)
                self.a_plan(web, (tune + gap, tune), None)
                self.a_plan(web, (tune, tune + gap + 1), None)
                if gap:
                    self.a_plan(web, (tune, tune + gap - 1), ("near", 0, 1))
                    self.a_plan(web, (tune + gap - 1, tune), ("near", 0, 1))
                    self.a_plan(web, (tune, tune), ("near", 0, 1))

    def test_tunes_of_the_list(self):
        web = web_made(4, {}, (0b0101, 0b1000, 0b1111))
        self.a_plan(web, (0, 3, 1), None)
        self.a_plan(web, (2, 3, 0), None)
        self.a_plan(web, (1, 3, 0), ("list", 0))
        self.a_plan(web, (3, 3, 0), ("list", 0))
        self.a_plan(web, (2, 0, 0), ("list", 1))
        self.a_plan(web_made(4, {}, (15, 15, 0)), (0, 0, 3), ("list", 2))
        self.a_plan(web_made(60, {}, (1 << 59,), 1), (59,), None)
        self.a_plan(web_made(60, {}, (1 << 59,), 1), (58,), ("list", 0))

    def test_list_is_ahead_of_near_of_the_same_station(self):
        web = web_made(4, {(0, 1): 3, (0, 2): 3, (1, 2): 3}, (15, 14, 15))
        self.a_plan(web, (0, 0, 0), ("list", 1))
        self.a_plan(web, (1, 1, 0), ("near", 0, 1))

    def test_an_earlier_station_is_ahead_whatever_fails(self):
        web = web_made(4, {(0, 1): 2, (0, 2): 2, (1, 2): 2}, (15, 15, 14))
        self.a_plan(web, (0, 1, 0), ("near", 0, 1))
        self.a_plan(web, (0, 2, 0), ("list", 2))
        self.a_plan(web_made(4, {(0, 2): 2}, (14, 15, 14)), (0, 0, 0), ("list", 0))

    def test_the_least_station_ahead_of_several(self):
        web = web_made(9, {(0, 3): 2, (1, 3): 2, (2, 3): 2, (0, 1): 1}, count=4)
        self.a_plan(web, (4, 3, 4, 4), ("near", 0, 3))
        self.a_plan(web, (8, 4, 4, 4), ("near", 1, 3))
        self.a_plan(web, (8, 1, 4, 4), ("near", 2, 3))
        self.a_plan(web, (8, 1, 6, 4), None)
        self.a_plan(web, (4, 4, 4, 4), ("near", 0, 1))

    def test_by_the_words_of_the_point(self):
        chance = random.Random(40)
        good = 0
        for _ in range(2000):
            count, many = chance.randint(1, 6), chance.randint(1, 25)
            web = random_web(chance, count, many)
            if chance.random() < 0.7:
                web = web[:3] + ((2 ** many - 1,) * count,)
            plan = tuple(chance.randrange(many) for _ in range(count))
            fault = fault_told(web, plan)
            good += fault is None
            self.a_plan(web, plan, fault)
        self.assertGreater(good, 100)


class Left(unittest.TestCase):
    def left(self, web, given, i, many, tunes):
        """These tunes are left, beside the given ones as a tuple and as a list."""
        before = copy.deepcopy(web)
        for told in (tuple(given), list(given)):
            for _ in range(2):
                found = left_for(web, told, i, many)
                self.assertIs(found.__class__, int)
                self.assertEqual(found, sum(2 ** tune for tune in set(tunes)))
                self.assertEqual(list(told), list(given))
        self.assertEqual(web, before)

    def test_nothing_given(self):
        web = web_made(5, {(0, 1): 2, (0, 2): 5}, (0b10110, 31, 0))
        self.left(web, (None, None, None), 0, 5, (1, 2, 4))
        self.left(web, (None, None, None), 1, 5, range(5))
        self.left(web, (None, None, None), 2, 5, ())

    def test_below_a_number(self):
        web = web_made(5, {}, (0b10110, 31, 0))
        for many in range(6):
            self.left(web, (None, None, None), 0, many, [tune for tune in (1, 2, 4) if tune < many])
            self.left(web, (None, 0, 0), 1, many, range(many))
        web = web_made(60, {(0, 1): 2}, count=2)
        for many in (0, 1, 2, 30, 59, 60):
            self.left(web, (None, 30), 0, many, set(range(many)) - {29, 30, 31})

    def test_a_number_somewhat_beyond(self):
        web = web_made(5, {(0, 1): 2}, (0b10111, 31), 2)
        self.left(web, (None, 1), 0, 6, (4,))
        self.left(web, (None, 4), 0, 61, (0, 1, 2))
        self.left(web, (None, 1), 0, -1, ())

    def test_gaps(self):
        for gap in range(6):
            web = web_made(20, {(0, 1): gap}, count=2)
            for given in range(20):
                wanted = [tune for tune in range(20) if abs(tune - given) >= gap]
                self.left(web, (None, given), 0, 20, wanted)
                self.left(web, (given, None), 1, 20, wanted)

    def test_a_gap_of_nought(self):
        web = web_made(3, {}, count=2)
        self.left(web, (None, 1), 0, 3, range(3))

    def test_a_gap_of_one(self):
        web = web_made(3, {(0, 1): 1}, count=2)
        for given in range(3):
            self.left(web, (None, given), 0, 3, {0, 1, 2} - {given})

    def test_a_gap_of_five_near_nought_and_near_the_last(self):
        web = web_made(60, {(0, 1): 5}, count=2)
        for given, first, last in ((0, 0, 4), (1, 0, 5), (4, 0, 8), (5, 1, 9), (54, 50, 58), (55, 51, 59),
                                   (58, 54, 59), (59, 55, 59)):
            self.left(web, (None, given), 0, 60, set(range(60)) - set(range(first, last + 1)))
        web = web_made(5, {(0, 1): 5}, count=2)
        for given in range(5):
            self.left(web, (None, given), 0, 5, set(range(5)) - set(range(given - 4, given + 5)))

    def test_given_tunes_at_or_above_the_number_count_too(self):
        web = web_made(9, {(0, 1): 4}, count=2)
        self.left(web, (None, 5), 0, 4, (0, 1))
        self.left(web, (None, 8), 0, 4, (0, 1, 2, 3))
        self.left(web, (None, 8), 0, 6, (0, 1, 2, 3, 4))

    def test_of_several_given_tunes(self):
        web = web_made(10, {(0, 1): 2, (0, 2): 3, (0, 3): 1, (1, 2): 5}, count=4)
        self.left(web, (None, 0, 9, 4), 0, 10, (2, 3, 5, 6))
        self.left(web, (None, 0, None, 4), 0, 10, (2, 3, 5, 6, 7, 8, 9))
        self.left(web, (None, None, 9, None), 0, 10, range(7))
        self.left(web, (7, None, None, 4), 1, 10, (0, 1, 2, 3, 4, 5, 9))

    def test_given_tunes_that_are_near_one_another(self):
        web = web_made(6, {(0, 1): 1, (0, 2): 1, (1, 2): 5}, count=3)
        self.left(web, (None, 3, 3), 0, 6, (0, 1, 2, 4, 5))

    def test_given_tunes_that_are_of_no_list(self):
        web = web_made(4, {(0, 1): 1}, (15, 0), 2)
        self.left(web, (None, 2), 0, 4, (0, 1, 3))

    def test_by_the_words_of_the_point(self):
        chance = random.Random(41)
        for _ in range(1000):
            count, many = chance.randint(1, 6), chance.randint(1, 25)
            web = random_web(chance, count, many)
            given = [chance.choice((None, chance.randrange(many))) for _ in range(count)]
            i, below = chance.randrange(count), chance.randint(0, many)
            given[i] = None
            self.left(web, given, i, below, left_told(web, given, i, below))

    def test_what_is_handed_in_is_not_kept(self):
        web = web_made(3, {(0, 1): 1}, count=2)
        given = [None, 0]
        self.assertEqual(left_for(web, given, 0, 3), 6)
        given[1] = 2
        self.assertEqual(left_for(web, given, 0, 3), 3)
        self.assertEqual(given, [None, 2])


if __name__ == "__main__":
    unittest.main()
