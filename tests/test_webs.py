"""The web of a field: web_of of tunehall/webs.py, points 1, 30 and 31."""

import unittest

from tunehall.reading import read
from tunehall.webs import is_web, web_of

END = 1000000
LETTERS = "abcdefghijklmnopqrstuvwx"


def web(*rows):
    return web_of(read("\n".join(rows)))


class Making(unittest.TestCase):
    def all_own_kinds(self, thing):
        self.assertIn(thing.__class__, (tuple, int, str))
        if thing.__class__ is tuple:
            for part in thing:
                self.all_own_kinds(part)

    def told(self, rows, wanted):
        found = web(*rows)
        self.assertEqual(found, wanted)
        self.all_own_kinds(found)
        self.assertIs(is_web(found), True)

    def gap(self, rules, place, other, *pairs):
        """The gap of a station a at a place and a station b at an other one."""
        rows = ("tunes 9", *rules, "station a {} {}".format(*place), "station b {} {}".format(*other), *pairs)
        gaps = web(*rows)[2]
        self.assertEqual((gaps[0][0], gaps[1][1]), (0, 0))
        self.assertEqual(gaps[0][1], gaps[1][0])
        return gaps[0][1]


class Webs(Making):
    def test_one_station(self):
        self.told(("tunes 1", "near 0 5", "station a 0 0"), (("a",), 1, ((0,),), (1,)))
        self.told(("tunes 3", "near 10 1", "station zz9 -5 5", "bar zz9 1"), (("zz9",), 3, ((0,),), (5,)))

    def test_a_web(self):
        self.told(
            ("tunes 4", "near 5 3", "near 10 1", "station c 0 0", "station a 3 4", "station b 6 8", "station d 50 50",
             "apart d c 2", "fix a 2", "bar b 0", "bar b 3"),
            (("c", "a", "b", "d"), 4, ((0, 3, 1, 2), (3, 0, 3, 0), (1, 3, 0, 0), (2, 0, 0, 0)), (15, 4, 6, 15)))

    def test_stations_stand_in_the_fields_order(self):
        names = ("m", "z", "a", "b9", "b10")
        rows = [f"station {name} {at * 10} 0" for at, name in enumerate(names)]
        found = web("tunes 2", "near 10 1", *rows)
        self.assertEqual(found[0], names)
        self.assertEqual(found[2][1], (1, 0, 1, 0, 0))

    def test_twenty_four_stations(self):
        rows = [f"station {letter} {at} {-at}" for at, letter in enumerate(LETTERS)]
        names, many, gaps, lists = found = web("tunes 60", "near 2 4", "near 5 2", *rows, "apart x a 5", "fix x 59")
        self.assertIs(is_web(found), True)
        self.assertEqual((names, many), (tuple(LETTERS), 60))
        self.assertEqual(lists, ((1 << 60) - 1,) * 23 + (1 << 59,))
        for i in range(24):
            for j in range(24):
                # The places of neighbours are the root of 2 away.
                wanted = {0: 0, 1: 4, 2: 2, 3: 2, 23: 5}.get(abs(i - j), 0)
                self.assertEqual(gaps[i][j], wanted)

    def test_a_second_asking_tells_the_same(self):
        text = "tunes 4\nnear 5 3\nstation c 0 0\nstation a 3 4\napart a c 0\nfix a 2\nbar a 2"
        field = read(text)
        first = web_of(field)
        self.assertEqual(web_of(field), first)
        self.assertEqual(field, read(text))


class Gaps(Making):
    def test_just_at_a_rule_and_just_beyond(self):
        for far in (1, 2, 7, 1000, END - 1):
            rules = (f"near {far} 3",)
            for x, y in ((far, 0), (-far, 0), (0, far), (0, -far), (far - 1, 0)):
                self.assertEqual(self.gap(rules, (0, 0), (x, y)), 3)
                self.assertEqual(self.gap(rules, (x, y), (0, 0)), 3)
            for x, y in ((far + 1, 0), (-far - 1, 0), (0, far + 1), (0, -far - 1), (far, 1), (-1, far)):
                self.assertEqual(self.gap(rules, (0, 0), (x, y)), 0)
                self.assertEqual(self.gap(rules, (x, y), (0, 0)), 0)

    def test_neither_x_nor_y_alone(self):
        self.assertEqual(self.gap(("near 5 2",), (10, 10), (13, 14)), 2)
        self.assertEqual(self.gap(("near 5 2",), (-10, 10), (-13, 6)), 2)
        self.assertEqual(self.gap(("near 5 2",), (10, 10), (14, 14)), 0)
        self.assertEqual(self.gap(("near 5 2",), (-2, -2), (2, 2)), 0)
        self.assertEqual(self.gap(("near 5 2",), (-1, -2), (2, 2)), 2)

    def test_of_nought_alone(self):
        self.assertEqual(self.gap(("near 0 4",), (5, -5), (5, -5)), 4)
        self.assertEqual(self.gap(("near 0 4",), (5, -5), (5, -6)), 0)

    def test_at_the_ends_of_the_places(self):
        rules = (f"near {END} 1",)
        self.assertEqual(self.gap(rules, (-END, 0), (0, 0)), 1)
        self.assertEqual(self.gap(rules, (-END, 0), (1, 0)), 0)
        self.assertEqual(self.gap(rules, (0, END), (0, 0)), 1)
        self.assertEqual(self.gap(rules, (0, END), (1, 0)), 0)
        self.assertEqual(self.gap(rules, (-END, -END), (END, END)), 0)
        self.assertEqual(self.gap(rules, (END, END), (END, END)), 1)
        # By far too near to 1000000 for a number with a point to tell them apart.
        self.assertEqual(self.gap(rules, (-END, 0), (0, 1)), 0)
        self.assertEqual(self.gap(rules, (600000, 800000), (0, 0)), 1)
        self.assertEqual(self.gap(rules, (600001, 800000), (0, 0)), 0)
        self.assertEqual(self.gap((f"near {END - 1} 1",), (600000, 800000), (0, 0)), 0)

    def test_the_first_rule_that_is_wide_enough(self):
        rules = ("near 0 5", "near 1 4", "near 10 3", "near 20 2", "near 30 1")
        for far in range(35):
            wanted = 5 if far == 0 else 4 if far == 1 else 3 if far <= 10 else 2 if far <= 20 else 1 if far <= 30 else 0
            self.assertEqual(self.gap(rules, (-7, 2), (-7, 2 + far)), wanted)
            self.assertEqual(self.gap(rules, (-7 - far, 2), (-7, 2)), wanted)

    def test_apart_is_ahead_of_the_rules(self):
        rules = ("near 10 3", "near 20 1")
        for gap in range(6):
            for pair in ("a b", "b a"):
                for far in (0, 10, 20, 21, 1000):
                    self.assertEqual(self.gap(rules, (0, 0), (far, 0), f"apart {pair} {gap}"), gap)

    def test_apart_is_of_these_two_alone(self):
        found = web("tunes 9", "near 10 3", "station a 0 0", "station b 1 1", "station c 90 0", "station d 2 2",
                    "apart b a 0", "apart c d 5")
        self.assertEqual(found[2], ((0, 0, 0, 3), (0, 0, 0, 3), (0, 0, 0, 5), (3, 3, 5, 0)))


class Lists(Making):
    def lists(self, many, *rows):
        return web(f"tunes {many}", "near 10 3", "station a 0 0", "station b 0 0", "station c 0 0", *rows)[3]

    def test_all_tunes(self):
        for many in (1, 2, 7, 59, 60):
            self.assertEqual(self.lists(many), (2 ** many - 1,) * 3)

    def test_barred(self):
        self.assertEqual(self.lists(4, "bar b 0"), (15, 14, 15))
        self.assertEqual(self.lists(4, "bar b 3", "bar c 1", "bar b 1"), (15, 5, 13))
        self.assertEqual(self.lists(1, "bar a 0"), (0, 1, 1))
        self.assertEqual(self.lists(60, "bar c 59")[2], 2 ** 59 - 1)
        self.assertEqual(self.lists(60, "bar c 0")[2], 2 ** 60 - 2)
        self.assertEqual(self.lists(60, *[f"bar a {tune}" for tune in range(60)])[0], 0)

    def test_fixed(self):
        self.assertEqual(self.lists(4, "fix b 0"), (15, 1, 15))
        self.assertEqual(self.lists(4, "fix c 3", "fix a 1"), (2, 15, 8))
        self.assertEqual(self.lists(1, "fix a 0"), (1, 1, 1))
        self.assertEqual(self.lists(60, "fix c 59")[2], 2 ** 59)

    def test_fixed_and_barred(self):
        self.assertEqual(self.lists(4, "fix b 2", "bar b 0"), (15, 4, 15))
        self.assertEqual(self.lists(4, "fix b 2", "bar b 2"), (15, 0, 15))
        self.assertEqual(self.lists(4, "fix b 2", "bar b 1", "bar b 2", "bar a 2"), (11, 0, 15))
        self.assertEqual(self.lists(1, "fix a 0", "bar a 0"), (0, 1, 1))
        self.assertEqual(self.lists(60, "fix a 59", "bar a 59")[0], 0)


if __name__ == "__main__":
    unittest.main()
