"""A line swept: tunehall/lines.py, points 1 and 70."""

import itertools
import random
import time
import unittest

from tests.made import Looking, good_plans, is_good
from tunehall.errors import BadWeb, NoPlan
from tunehall.fewest import fewest
from tunehall.lines import swept
from tunehall.reading import read
from tunehall.webs import web_of

SECONDS = 2


def line(many, rule, places, y=0):
    """A field of stations side by side."""
    stations = tuple((f"s{i}", x, y) for i, x in enumerate(places))
    return (many, (rule,), stations, (), (), ())


def swept_told(field):
    """The plan and the crowd by the words of point 70."""
    (far, gap), stations = field[1][0], field[2]
    order = sorted(range(len(stations)), key=lambda i: (stations[i][1], i))
    steps = {}
    for i in order:
        had = {steps[j] for j in steps if abs(stations[j][1] - stations[i][1]) <= far}
        steps[i] = next(step for step in itertools.count() if step not in had)
    first = next(i for i in order if steps[i] == max(steps.values()))
    ahead = order[:order.index(first)]
    crowd = [j for j in ahead if abs(stations[j][1] - stations[first][1]) <= far] + [first]
    return tuple(steps[i] * gap for i in range(len(stations))), tuple(sorted(crowd))


class Lines(Looking, unittest.TestCase):
    def swept(self, field, plan, crowd):
        found = self.told(swept, field)
        self.assertEqual(found, (plan, crowd))
        self.assertEqual([part.__class__ for part in found], [tuple, tuple])
        self.holds(field, *found)

    def holds(self, field, plan, crowd):
        """The plan is good, and the crowd needs as many tunes as it has."""
        web, gap = web_of(field), field[1][0][1]
        self.assertTrue(is_good(web, plan))
        self.assertEqual(list(crowd), sorted(set(crowd)))
        for i, j in itertools.combinations(crowd, 2):
            self.assertEqual(web[2][i][j], gap)
        self.assertEqual((len(crowd) - 1) * gap, max(plan))

    def test_one_station(self):
        for rule in ((0, 5), (0, 1), (1000000, 3)):
            self.swept(line(1, rule, (-7,)), (0,), (0,))

    def test_stations_at_one_place(self):
        for far in (0, 1, 1000000):
            self.swept(line(60, (far, 3), (5, 5, 5, 5)), (0, 3, 6, 9), (0, 1, 2, 3))
            self.swept(line(60, (far, 1), (-5,) * 24), tuple(range(24)), tuple(range(24)))

    def test_just_near_and_just_beyond(self):
        self.swept(line(9, (0, 2), (0, 1)), (0, 0), (0,))
        self.swept(line(9, (0, 2), (1, 0)), (0, 0), (1,))
        for far in (1, 10, 999999):
            self.swept(line(9, (far, 2), (0, far)), (0, 2), (0, 1))
            self.swept(line(9, (far, 2), (far, 0)), (2, 0), (0, 1))
            self.swept(line(9, (far, 2), (0, far + 1)), (0, 0), (0,))
            self.swept(line(9, (far, 2), (far + 1, 0)), (0, 0), (1,))
            self.swept(line(9, (far, 2), (-far, 0)), (0, 2), (0, 1))
            self.swept(line(9, (far, 2), (-far - 1, 0)), (0, 0), (0,))

    def test_places_below_nought(self):
        self.swept(line(9, (10, 1), (-5, 5, -16, -15)), (0, 1, 0, 1), (2, 3))
        self.swept(line(9, (5, 4), (-1000000, 1000000, -999995)), (0, 0, 4), (0, 2))

    def test_from_the_least_place_on(self):
        self.swept(line(9, (2, 1), (4, 3, 2, 1, 0)), (1, 0, 2, 1, 0), (2, 3, 4))
        self.swept(line(9, (2, 1), (0, 1, 2, 3, 4)), (0, 1, 2, 0, 1), (0, 1, 2))
        self.swept(line(9, (10, 1), (100, -100)), (0, 0), (1,))

    def test_like_places_by_their_numbers(self):
        self.swept(line(9, (0, 5), (3, 1, 3, 1)), (0, 0, 5, 5), (1, 3))
        self.swept(line(20, (1, 5), (3, 2, 3, 2)), (10, 0, 15, 5), (0, 1, 2, 3))

    def test_a_step_that_is_had_again(self):
        # The third one is near to the second alone, so it has the first one's step.
        self.swept(line(9, (5, 2), (0, 5, 10, 15)), (0, 2, 0, 2), (0, 1))
        # A lesser step is free beside a greater one.
        self.swept(line(9, (5, 1), (0, 3, 4, 6, 9)), (0, 1, 2, 0, 1), (0, 1, 2))

    def test_the_first_that_gets_the_greatest_step_tells_the_crowd(self):
        self.swept(line(9, (1, 3), (20, 21, 0, 1, 10)), (0, 3, 0, 3, 0), (2, 3))
        self.swept(line(9, (1, 3), (20, 21, 21, 0, 1)), (0, 3, 6, 0, 3), (0, 1, 2))
        # Of those that are near to it, but swept behind it, none is of the crowd.
        self.swept(line(9, (2, 1), (0, 1, 3, 2)), (0, 1, 0, 2), (0, 1, 3))

    def test_another_y_of_all(self):
        for y in (-1000000, -1, 1, 1000000):
            self.swept(line(9, (5, 2), (0, 5, 10, 15), y), (0, 2, 0, 2), (0, 1))

    def test_as_many_tunes_as_are_wanted_and_one_fewer(self):
        for gap in range(1, 6):
            places = (0, 1, 2, 50)
            self.swept(line(2 * gap + 1, (2, gap), places), (0, gap, 2 * gap, 0), (0, 1, 2))
            for many in {2 * gap, gap + 1, 1}:
                self.refused(NoPlan, swept, line(many, (2, gap), places))
        self.refused(NoPlan, swept, line(23, (0, 1), (0,) * 24))
        self.swept(line(24, (0, 1), (0,) * 24), tuple(range(24)), tuple(range(24)))

    def test_a_field_that_was_read(self):
        text = "tunes 9\nnear 5 2\nstation b 0 7\nstation a 5 7\nstation c -5 7"
        self.swept(read(text), (2, 0, 0), (0, 2))

    def test_no_lines(self):
        # Each with enough tunes, and with too few.
        for many in (60, 1):
            good = line(many, (5, 2), (0, 5, 10))
            one, other = (("s0", "s1", 2),), (("s0", 0),)
            self.refused(BadWeb, swept, (*good[:1], ((5, 2), (6, 1)), *good[2:]))
            for at in range(3):
                for y in (-1, 1):
                    stations = tuple((name, x, y if k == at else 0) for k, (name, x, _) in enumerate(good[2]))
                    self.refused(BadWeb, swept, (*good[:2], stations, *good[3:]))
            self.refused(BadWeb, swept, (*good[:3], one, (), ()))
            self.refused(BadWeb, swept, (*good[:3], (), other, ()))
            self.refused(BadWeb, swept, (*good[:3], (), (), other))
            self.refused(BadWeb, swept, (*good[:3], one, other, other))

    def test_no_lines_though_they_tell_nothing_new(self):
        text = "tunes 9\nnear 5 2\nstation b 0 7\nstation a 5 7"
        self.told(swept, read(text))
        for row in ("apart a b 2", "fix a 2", "bar a 8"):
            self.refused(BadWeb, swept, read(text + "\n" + row))
        self.refused(BadWeb, swept, read(text.replace("station b 0 7", "near 2000 1\nstation b 0 7")))

    def test_by_the_words_of_the_point(self):
        chance = random.Random(70)
        for _ in range(400):
            count, far, gap = chance.randint(1, 24), chance.randint(0, 12), chance.randint(1, 5)
            field = line(60, (far, gap), [chance.randint(-25, 25) for _ in range(count)])
            plan, crowd = swept_told(field)
            if max(plan) >= 60:
                self.refused(NoPlan, swept, field)
                continue
            self.swept(field, plan, crowd)
            self.assertEqual(fewest(web_of(field))[0], max(plan) + 1)
            self.swept((max(plan) + 1, *field[1:]), plan, crowd)
            if max(plan):
                self.refused(NoPlan, swept, (max(plan), *field[1:]))

    def test_the_fewest_tunes_of_all_plans(self):
        chance = random.Random(71)
        for _ in range(60):
            places = [chance.randint(0, 8) for _ in range(chance.randint(1, 4))]
            field = line(8, (chance.randint(0, 4), chance.randint(1, 2)), places)
            plan, _ = swept(field)
            web = web_of(field)
            self.assertIn(plan, list(good_plans(web, max(plan) + 1)))
            self.assertFalse(list(good_plans(web, max(plan))))

    def test_at_once(self):
        start = time.perf_counter()
        for far in (0, 10, 1000000):
            for count in (1, 23, 24):
                field = line(60, (far, 2), [i * 7 % 24 for i in range(count)])
                self.swept(field, *swept_told(field))
        self.assertLess(time.perf_counter() - start, SECONDS)


if __name__ == "__main__":
    unittest.main()
