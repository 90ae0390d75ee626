"""What shows the fewest changes: shows_least of tunehall/changes.py, points 1 and 101."""

import itertools
import random
import unittest

from tests.made import (
    THINGS, Looking, deep, good_plans, is_number, near_to, part_at, places, put, random_web, tunes_left, web_made)
from tunehall.changes import least_changed, shows_least
from tunehall.errors import BadPlan, NoPlan

# A row of three that all had the tune 0, and one of which none is told.
ROW = web_made(4, {(0, 1): 1, (1, 2): 1}, 4)
ELDER = (0, 0, 0, None)
ENDS = ("dear", (1,))
SHOWN = ("cases", 0, ((0, ENDS), (1, ("dear", ())), (2, ("dear", ())), (3, ("dear", ()))))


def shows_told(web, elder, many, count, given, thing):
    """What point 101 tells, by its words; given is a dict of the stations that are given tunes."""
    if not isinstance(thing, tuple) or len(thing) < 2 or not isinstance(thing[0], str):
        return False
    stations = range(len(web[0]))

    def left(i):
        return tunes_left(web, [given.get(j) for j in stations], i, many)

    if thing[0] == "dear" and len(thing) == 2:
        if not isinstance(thing[1], tuple) or not all(is_number(i) and i in stations for i in thing[1]):
            return False
        changes = sum(elder[i] is not None and elder[i] != tune for i, tune in given.items())
        return (list(thing[1]) == sorted(set(thing[1]))
                and all(i not in given and elder[i] is not None and elder[i] not in left(i) for i in thing[1])
                and changes + len(thing[1]) >= count)
    if not is_number(thing[1]) or thing[1] not in stations or thing[1] in given:
        return False
    if thing[0] == "none" and len(thing) == 2:
        return not left(thing[1])
    if thing[0] != "cases" or len(thing) != 3 or not isinstance(thing[2], tuple) or not thing[2]:
        return False
    if not all(isinstance(pair, tuple) and len(pair) == 2 and is_number(pair[0]) for pair in thing[2]):
        return False
    return ([tune for tune, _ in thing[2]] == left(thing[1])
            and all(shows_told(web, elder, many, count, {**given, thing[1]: tune}, shown) for tune, shown in thing[2]))


class Shows(Looking, unittest.TestCase):
    def yes(self, web, elder, many, count, thing):
        self.assertIs(self.told(shows_least, web, elder, many, count, thing), True)

    def no(self, web, elder, many, count, thing):
        """Of anything, also of such as can't be copied."""
        for _ in range(2):
            self.assertIs(shows_least(web, elder, many, count, thing), False)


class Kinds(Shows):
    def test_none_shows_nought_and_nothing_else_does(self):
        for elder in (ELDER, (None,) * 4, (59,) * 4):
            self.yes(ROW, elder, 4, 0, None)
            for thing in (SHOWN, ENDS, ("dear", ()), ("none", 0), *THINGS):
                if thing is not None:
                    self.no(ROW, elder, 4, 0, thing)
            for count in (1, 2, 5):
                self.no(ROW, elder, 4, count, None)
        # Not even what shows that no plan is good.
        web = web_made(4, {}, 1, (0,))
        self.yes(web, (0,), 4, 1, ("none", 0))
        self.no(web, (0,), 4, 0, ("none", 0))

    def test_dear(self):
        web = web_made(4, {}, 4, (0b1110, 0b1111, 0b0111, 0b1))
        elder = (0, 0, 3, None)
        self.yes(web, elder, 4, 2, ("dear", (0, 2)))
        self.yes(web, elder, 4, 1, ("dear", (0, 2)))
        self.no(web, elder, 4, 3, ("dear", (0, 2)))
        self.yes(web, elder, 4, 1, ("dear", (0,)))
        self.yes(web, elder, 4, 1, ("dear", (2,)))
        self.no(web, elder, 4, 2, ("dear", (2,)))
        # One that has its tune left, and one that had none.
        self.no(web, elder, 4, 1, ("dear", (0, 1)))
        self.no(web, elder, 4, 1, ("dear", (0, 3)))
        self.no(web, elder, 4, 1, ("dear", ()))

    def test_dear_of_tunes_at_the_number_or_above(self):
        for old, many, wanted in ((2, 3, False), (3, 3, True), (3, 4, False), (4, 4, True), (59, 4, True)):
            self.assertIs(shows_least(ROW, (old, None, None, None), many, 1, ("dear", (0,))), wanted)

    def test_dear_beside_given_tunes(self):
        self.yes(ROW, ELDER, 4, 1, SHOWN)
        self.no(ROW, ELDER, 4, 2, SHOWN)
        self.no(ROW, ELDER, 4, 1, ENDS)
        # With 0 for the middle one both others lose it.
        two = ("dear", (0, 2))
        self.yes(ROW, ELDER, 1, 2, ("cases", 1, ((0, two),)))
        self.no(ROW, ELDER, 1, 3, ("cases", 1, ((0, two),)))
        rest = tuple((tune, ("dear", ())) for tune in (1, 2, 3))
        self.yes(ROW, ELDER, 4, 1, ("cases", 1, ((0, two), *rest)))
        self.no(ROW, ELDER, 4, 2, ("cases", 1, ((0, two), *rest)))
        # One to which a tune is given is none of those that are told.
        self.no(ROW, ELDER, 4, 1, ("cases", 1, ((0, two), (1, ("dear", (1,))), *rest[1:])))
        self.no(ROW, ELDER, 4, 1, ("cases", 1, ((0, two), (1, ("dear", (0,))), *rest[1:])))

    def test_given_ones_that_had_none_or_have_their_own(self):
        web = web_made(2, {(0, 1): 1}, 3)
        elder = (None, 0, 1)
        # Station 0 had none; with tune 0 station 1 loses its own one, else nothing is changed.
        self.no(web, elder, 2, 1, ("cases", 0, ((0, ("dear", (1,))), (1, ("dear", ())))))
        self.no(web, elder, 2, 1, ("cases", 0, ((0, ("dear", ())), (1, ("dear", ())))))
        self.yes(web, elder, 1, 1, ("cases", 0, ((0, ("dear", (1,))),)))
        self.yes(web, elder, 1, 2, ("cases", 0, ((0, ("dear", (1, 2))),)))
        self.no(web, elder, 2, 1, ("cases", 1, ((0, ("dear", ())), (1, ("dear", ())))))

    def test_none_and_cases(self):
        web = web_made(4, {(0, 1): 4}, 3)
        web = (*web[:3], (0b1, 0b1111, 0b11))
        elder = (0, None, None)
        ground = ("cases", 0, ((0, ("none", 1)),))
        for count in (1, 2, 3, 100):
            self.yes(web, elder, 4, count, ground)
        for other in (("none", 1), ("none", 0), ("cases", 0, ((0, ("none", 0)),)), ("cases", 0, ()),
                      ("cases", 1, ((0, ("none", 0)),)), ("cases", 0, ((0, ("none", 2)),)),
                      ("cases", 0, ((0, ("none", 1)), (1, ("none", 1)))), ("cases", 2, ((0, ground),)),
                      ("cases", 0, ((0, ground),)), ("cases", 0, [(0, ("none", 1))])):
            self.no(web, elder, 4, 1, other)
        self.yes(web, elder, 4, 1, ("cases", 2, ((0, ground), (1, ground))))
        self.no(web, elder, 4, 1, ("cases", 2, ((1, ground), (0, ground))))

    def test_a_crowd_is_none_of_these(self):
        web = web_made(2, {(0, 1): 5}, 2)
        self.no(web, (0, 0), 2, 1, ("crowd", 5, (0, 1)))


class Otherwise(Shows):
    def test_things_of_other_kinds(self):
        for thing in THINGS:
            for count in (1, 2, 10 ** 900):
                self.no(ROW, ELDER, 4, count, thing)

    def test_things_of_other_kinds_within(self):
        self.yes(ROW, ELDER, 4, 1, SHOWN)
        for at in places(SHOWN):
            for thing in THINGS:
                if not is_number(thing) and thing.__class__ is not part_at(SHOWN, at).__class__:
                    self.no(ROW, ELDER, 4, 1, put(SHOWN, at, thing))

    def test_deep_things(self):
        for kind in (list, tuple):
            for thing in (deep(kind), ("dear", deep(kind)), ("none", deep(kind)), ("cases", 0, deep(kind))):
                self.no(ROW, ELDER, 4, 1, thing)
        thing = ENDS
        for _ in range(16):
            thing = ("cases", 0, tuple((tune, thing) for tune in range(4)))
        self.no(ROW, ELDER, 4, 1, thing)

    def test_one_thing_otherwise(self):
        for at in places(SHOWN):
            for part in near_to(part_at(SHOWN, at)):
                thing = put(SHOWN, at, part)
                for count in (1, 2):
                    wanted = shows_told(ROW, ELDER, 4, count, {}, thing)
                    self.assertIs(shows_least(ROW, ELDER, 4, count, thing), wanted, thing)

    def test_by_the_words_of_the_point(self):
        chance = random.Random(101)
        seen = set()
        for _ in range(300):
            count, many = chance.randint(1, 6), chance.randint(1, 7)
            web = random_web(chance, count, many)
            elder = tuple(chance.choice((None, 0, 1, chance.randrange(many), chance.randrange(9)))
                          for _ in range(count))
            try:
                changes, _, shown = least_changed(web, elder, many)
            except NoPlan:
                continue
            if changes == 0:
                self.assertIs(shown, None)
                continue
            self.yes(web, elder, many, changes, shown)
            self.assertIs(shows_told(web, elder, many, changes, {}, shown), True)
            spots = list(places(shown))
            for at in chance.sample(spots, min(len(spots), 12)):
                for part in near_to(part_at(shown, at)):
                    thing = put(shown, at, part)
                    for number in (1, changes, changes + 1):
                        wanted = shows_told(web, elder, many, number, {}, thing)
                        self.assertIs(shows_least(web, elder, many, number, thing), wanted)
                        seen.add(wanted)
        self.assertEqual(seen, {False, True})

    def test_what_shows_it_holds_of_all_plans(self):
        chance = random.Random(102)
        for _ in range(100):
            web = random_web(chance, 4, 5)
            elder = tuple(chance.randrange(5) for _ in range(4))
            fewest = min((sum(map(int.__ne__, elder, plan)) for plan in good_plans(web, 5)), default=None)
            try:
                shown = least_changed(web, elder, 5)[2]
            except NoPlan:
                continue
            for count in range(1, 5):
                self.assertIs(shows_least(web, elder, 5, count, shown), shown is not None and count <= fewest)


class Refused(Shows):
    def test_counts(self):
        for count in (-1, -10 ** 900, True, False, None, "1", 1.0, (1,), [1], *THINGS):
            if count.__class__ is not int or count < 0:
                for shown in (None, SHOWN, 5):
                    self.refused(BadPlan, shows_least, ROW, ELDER, 4, count, shown)
        for count in (0, 1, 24, 25, 10 ** 900):
            self.no(ROW, ELDER, 4, count, ("none", 0))

    def test_several_wrong_at_once(self):
        for elder, many, count in itertools.product((ELDER, (0, 0), None), (4, 0, 5, True, None), (1, -1, True, "1")):
            if (elder, many, count) != (ELDER, 4, 1) or many is True or count is True:
                self.refused(BadPlan, shows_least, ROW, elder, many, count, SHOWN)


if __name__ == "__main__":
    unittest.main()
