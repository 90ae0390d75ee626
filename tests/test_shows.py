"""What shows that tunes below a number can't do: shows of tunehall/fewest.py, points 1 and 60."""

import itertools
import random
import unittest

from tests.made import (
    THINGS, Looking, all_near, deep, is_number, near_to, part_at, places, put, random_web, ring, tunes_left, web_made,
    web_of_gaps)
from tunehall.errors import NoPlan
from tunehall.fewest import fewest, shows, without

WEB = web_made(9, {(0, 1): 2, (0, 2): 2, (1, 2): 2, (2, 3): 5, (0, 3): 1}, 5)
RING = ring(60, 1)
# Two near stations that may have two tunes each, and one that hangs loosely.
PAIR = web_made(6, {(0, 1): 2}, 3, (0b011, 0b011, 0b111))
PAIRED = ("cases", 0, ((0, ("none", 1)), (1, ("none", 1))))


def shows_told(web, many, given, thing):
    """What point 60 tells, by its words; given is a dict of the stations that are given tunes."""
    if not isinstance(thing, tuple) or not thing or not isinstance(thing[0], str):
        return False
    stations = range(len(web[0]))
    if thing[0] == "crowd" and len(thing) == 3:
        gap, crowd = thing[1:]
        return (is_number(gap) and gap in range(1, 6) and isinstance(crowd, tuple)
                and all(is_number(i) and i in stations for i in crowd)
                and list(crowd) == sorted(set(crowd))
                and all(web[2][i][j] >= gap for i, j in itertools.combinations(crowd, 2))
                and (len(crowd) - 1) * gap + 1 > many)
    if len(thing) < 2 or not is_number(thing[1]) or thing[1] not in stations or thing[1] in given:
        return False
    tunes = tunes_left(web, [given.get(i) for i in stations], thing[1], many)
    if thing[0] == "none" and len(thing) == 2:
        return not tunes
    if thing[0] != "cases" or len(thing) != 3 or not isinstance(thing[2], tuple) or not thing[2]:
        return False
    if not all(isinstance(pair, tuple) and len(pair) == 2 and is_number(pair[0]) for pair in thing[2]):
        return False
    return ([tune for tune, _ in thing[2]] == tunes
            and all(shows_told(web, many, {**given, thing[1]: tune}, shown) for tune, shown in thing[2]))


class Shows(Looking, unittest.TestCase):
    def yes(self, web, many, thing):
        self.assertIs(self.told(shows, web, many, thing), True)

    def no(self, web, many, thing):
        """Of anything, also of such as can't be copied."""
        for _ in range(2):
            self.assertIs(shows(web, many, thing), False)


class Kinds(Shows):
    def test_crowds(self):
        self.yes(WEB, 4, ("crowd", 2, (0, 1, 2)))
        self.yes(WEB, 1, ("crowd", 2, (0, 1, 2)))
        self.no(WEB, 5, ("crowd", 2, (0, 1, 2)))
        self.no(WEB, 9, ("crowd", 2, (0, 1, 2)))
        # Neither the greatest one nor the gap that they have is wanted.
        self.yes(WEB, 2, ("crowd", 2, (1, 2)))
        self.yes(WEB, 2, ("crowd", 1, (0, 1, 2)))
        self.no(WEB, 3, ("crowd", 1, (0, 1, 2)))
        self.yes(WEB, 1, ("crowd", 1, (0, 3)))
        self.yes(WEB, 5, ("crowd", 5, (2, 3)))
        self.no(WEB, 6, ("crowd", 5, (2, 3)))

    def test_crowds_that_are_none(self):
        self.no(WEB, 1, ("crowd", 3, (0, 1, 2)))
        self.no(WEB, 1, ("crowd", 2, (0, 1, 2, 3)))
        self.no(WEB, 1, ("crowd", 1, (0, 1, 3)))
        self.no(WEB, 1, ("crowd", 1, (3, 4)))
        self.no(WEB, 1, ("crowd", 2, (0, 3)))
        self.no(WEB, 1, ("crowd", 1, (0,)))
        self.no(WEB, 1, ("crowd", 1, ()))

    def test_crowds_of_other_gaps(self):
        fives = all_near(60, 5, 3)
        for gap in (0, 6, -1, -5, 10 ** 900, True, None, "5", 5.0):
            self.no(fives, 1, ("crowd", gap, (0, 1, 2)))
        for gap in range(1, 6):
            self.yes(fives, 2 * gap, ("crowd", gap, (0, 1, 2)))
            self.no(fives, 2 * gap + 1, ("crowd", gap, (0, 1, 2)))

    def test_crowds_of_wrong_stations(self):
        for crowd in ([0, 1, 2], (0, 2, 1), (2, 1, 0), (0, 1, 1), (0, 0, 1), (0, 1, 5), (-1, 0, 1), (0, 1, 24),
                      (False, 1, 2), (0, True, 2), (0, 1, None), (0, 1, "2"), (0, 1, (2,)), "012", {0, 1, 2}):
            self.no(WEB, 1, ("crowd", 2, crowd))
        self.no(all_near(9, 1, 2), 1, ("crowd", 1, (False, True)))

    def test_crowds_of_twenty_four(self):
        whole = tuple(range(24))
        for gap in range(1, 6):
            web = all_near(60, gap, 24)
            for many in (1, 23, 60):
                if 23 * gap + 1 > many:
                    self.yes(web, many, ("crowd", gap, whole))
                else:
                    self.no(web, many, ("crowd", gap, whole))
            self.no(web, 1, ("crowd", gap, whole + (24,)))
            self.no(web, 1, ("crowd", gap, (-1,) + whole))
            self.no(web, 1, ("crowd", gap, whole[::-1]))
            self.no(web, 1, ("crowd", gap, list(whole)))
        web = web_of_gaps(60, lambda i, j: 1 if (i, j) != (22, 23) else 0, 24)
        self.no(web, 1, ("crowd", 1, whole))
        self.yes(web, 22, ("crowd", 1, whole[:23]))
        self.no(web, 23, ("crowd", 1, whole[:23]))

    def test_none(self):
        web = web_made(6, {}, 3, (0b110000, 0, 0b1))
        for many in range(1, 7):
            self.yes(web, many, ("none", 1))
            self.no(web, many, ("none", 2))
            if many <= 4:
                self.yes(web, many, ("none", 0))
            else:
                self.no(web, many, ("none", 0))
        for i in (-1, -2, 3, 4, 10 ** 900, True, None, "1", (1,), [1], 1.0):
            self.no(web, 1, ("none", i))
        self.no(web_made(6, {}, 3, (0, 0, 0)), 1, ("none", False))

    def test_none_beside_given_tunes_alone(self):
        self.yes(PAIR, 3, PAIRED)
        self.yes(PAIR, 6, PAIRED)
        self.no(PAIR, 3, ("none", 1))
        self.no(PAIR, 3, ("none", 0))
        # Of one to which a tune is given.
        self.no(PAIR, 3, ("cases", 0, ((0, ("none", 0)), (1, ("none", 1)))))
        self.no(PAIR, 3, ("cases", 0, ((0, ("none", 2)), (1, ("none", 1)))))

    def test_cases(self):
        self.yes(PAIR, 6, ("cases", 1, ((0, ("none", 0)), (1, ("none", 0)))))
        # Below one tune there is one branch; a tune that can't be had below it has none.
        self.yes(PAIR, 1, ("cases", 0, ((0, ("none", 1)),)))
        self.no(PAIR, 1, PAIRED)
        self.no(PAIR, 2, ("cases", 0, ((0, ("none", 1)),)))
        self.no(PAIR, 2, ("cases", 0, ((1, ("none", 1)),)))
        # Cases of a loose station are of no use, but do no harm.
        self.yes(PAIR, 6, ("cases", 2, tuple((tune, PAIRED) for tune in range(3))))
        self.no(PAIR, 6, ("cases", 2, tuple((tune, PAIRED) for tune in range(2))))
        self.no(PAIR, 6, ("cases", 2, tuple((tune, PAIRED) for tune in range(4))))
        self.no(PAIR, 6, ("cases", 2, ((0, PAIRED), (1, PAIRED), (2, ("none", 1)))))
        self.no(PAIR, 6, ("cases", 2, ((0, PAIRED), (1, PAIRED), (2, ("cases", 2, PAIRED[2])))))

    def test_no_branch_at_all(self):
        web = web_made(6, {(0, 1): 5}, 2, (0, 0b111))
        self.yes(web, 6, ("none", 0))
        self.no(web, 6, ("cases", 0, ()))
        self.no(web, 6, ("cases", 1, ()))
        self.yes(web, 6, ("cases", 1, tuple((tune, ("none", 0)) for tune in range(3))))

    def test_a_crowd_within_a_branch(self):
        web = web_made(4, {(1, 2): 4}, 3, (0b101, 15, 15))
        ends = ("crowd", 4, (1, 2))
        self.yes(web, 4, ends)
        self.yes(web, 4, ("cases", 0, ((0, ends), (2, ends))))
        self.no(web, 4, ("cases", 0, ((0, ends), (2, ("crowd", 3, (1, 2))))))
        # One of stations to which tunes are given is one as well.
        self.yes(web, 4, ("cases", 1, tuple((tune, ends) for tune in range(4))))

    def test_given_tunes_hold_in_their_own_branch_alone(self):
        web = web_made(4, {(0, 1): 1, (0, 2): 1}, 3, (0b11, 0b1, 0b10))
        self.yes(web, 4, ("cases", 0, ((0, ("none", 1)), (1, ("none", 2)))))
        self.no(web, 4, ("cases", 0, ((0, ("none", 1)), (1, ("none", 1)))))
        self.no(web, 4, ("cases", 0, ((0, ("none", 2)), (1, ("none", 2)))))

    def test_below_one_tune_and_all(self):
        web = ring(3, 1)
        self.yes(web, 1, ("crowd", 1, (0, 1)))
        self.no(web, 2, ("crowd", 1, (0, 1)))
        self.no(web, 3, fewest(web)[2])
        shown = fewest(RING)[2]
        self.yes(RING, 2, shown)
        self.no(RING, 60, shown)
        self.no(RING, 1, shown)

    def test_a_number_somewhat_beyond(self):
        web = all_near(2, 1, 3)
        self.no(web, 3, ("crowd", 1, (0, 1, 2)))
        self.yes(web, 0, ("none", 0))
        self.no(PAIR, 7, ("crowd", 1, (0, 1)))
        self.yes(PAIR, 7, PAIRED)
        self.yes(web_made(60, {}, 1, (0,)), 61, ("none", 0))


class Otherwise(Shows):
    def test_things_of_other_kinds(self):
        for thing in THINGS:
            for many in (1, 2, 60):
                self.no(RING, many, thing)

    def test_things_of_other_kinds_within(self):
        for shown, web, many in ((("crowd", 2, (0, 1, 2)), WEB, 4), (PAIRED, PAIR, 6), (("none", 0), WEB, 0)):
            self.yes(web, many, shown)
            for at in places(shown):
                for thing in THINGS:
                    if not is_number(thing) and thing.__class__ is not part_at(shown, at).__class__:
                        self.no(web, many, put(shown, at, thing))

    def test_deep_things(self):
        for kind in (list, tuple):
            thing = deep(kind)
            self.no(PAIR, 6, thing)
            self.no(PAIR, 6, ("none", thing))
            self.no(PAIR, 6, ("crowd", 2, thing))
            self.no(PAIR, 6, ("crowd", thing, (0, 1)))
            self.no(PAIR, 6, ("cases", 0, thing))
            self.no(PAIR, 6, (thing, 0, ()))
        thing = ("none", 1)
        for _ in range(16):
            thing = ("cases", 0, ((0, thing), (1, thing)))
        self.no(PAIR, 6, thing)
        thing = {"a": 1}
        for _ in range(48):
            thing = {"cases": thing}
        self.no(PAIR, 6, thing)

    def test_one_thing_otherwise(self):
        shown = fewest(RING)[2]
        for web, many, shown in ((RING, 2, shown), (PAIR, 6, PAIRED), (WEB, 4, ("crowd", 2, (0, 1, 2)))):
            seen = set()
            for at in places(shown):
                for part in near_to(part_at(shown, at)):
                    thing = put(shown, at, part)
                    wanted = shows_told(web, many, {}, thing)
                    self.assertIs(shows(web, many, thing), wanted, thing)
                    seen.add(wanted)
            self.assertIn(False, seen)

    def test_by_the_words_of_the_point(self):
        chance = random.Random(60)
        seen = set()
        for _ in range(300):
            many = chance.randint(1, 8)
            web = random_web(chance, chance.randint(1, 6), many)
            try:
                below, _, shown = fewest(web)
                below -= 1
            except NoPlan:
                below, shown = many, without(web)
            if shown is None:
                continue
            self.yes(web, below, shown)
            self.assertIs(shows_told(web, below, {}, shown), True)
            spots = list(places(shown))
            for at in chance.sample(spots, min(len(spots), 20)):
                for part in near_to(part_at(shown, at)):
                    thing = put(shown, at, part)
                    for number in (1, below, below + 1):
                        wanted = shows_told(web, number, {}, thing)
                        self.assertIs(shows(web, number, thing), wanted)
                        seen.add(wanted)
        self.assertEqual(seen, {False, True})

    def test_twenty_four_stations(self):
        # A ring of twenty-three, and one that hangs loosely.
        web = web_of_gaps(60, lambda i, j: 1 if j < 23 and j - i in (1, 22) else 0, 24)
        many, _, shown = fewest(web)
        self.assertEqual(many, 3)
        self.yes(web, 2, shown)
        self.no(web, 3, shown)
        self.no(web, 1, shown)
        self.yes(web, 2, ("cases", 23, ((0, shown), (1, shown))))
        self.no(web, 2, ("cases", 22, ((0, shown), (1, shown))))


if __name__ == "__main__":
    unittest.main()
