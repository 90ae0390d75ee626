"""What a web is: is_web and need_web of tunehall/webs.py, points 1 and 31."""

import copy
import unittest

from tests.made import Odd
from tunehall import errors
from tunehall.errors import BadWeb, TuneError
from tunehall.webs import is_web, need_web

OTHERS = (errors.BadText, errors.Lacking, errors.Twice, errors.BadNumber, errors.TooMany, errors.BadPlan,
          errors.BadShown, errors.NoPlan, errors.BadLine)
ONE = (("a",), 1, ((0,),), (1,))
THREE = (("a", "b", "c"), 4, ((0, 2, 5), (2, 0, 1), (5, 1, 0)), (15, 0, 6))
NAMES, MANY, GAPS, LISTS = THREE


THINGS = (
    None, True, False, 0, 1, -1, 10 ** 900, 1.5, "", "a", "abcd", b"", b"abcd", (), [], {}, set(), frozenset((1,)),
    range(4), object(), Odd(), Odd, tuple, len, TuneError("x"), bytearray(b"a"), {"a": 1}, [1, 2, 3, 4],
    (None,) * 4, ((),) * 4, iter(()), NotImplemented, ...)


def with_part(at, part):
    """THREE with an other part."""
    return THREE[:at] + (part,) + THREE[at + 1:]


def with_gap(i, j, gap):
    """THREE with an other gap at one place."""
    rows = [list(row) for row in GAPS]
    rows[i][j] = gap
    return with_part(2, tuple(map(tuple, rows)))


def of_stations(many, tunes=60, gap=5):
    """A web of so many stations, each two with this gap."""
    gaps = tuple(tuple(0 if i == j else gap for j in range(many)) for i in range(many))
    return (tuple(f"s{i}" for i in range(many)), tunes, gaps, (2 ** tunes - 1,) * many)


class Looking(unittest.TestCase):
    def a_web(self, thing):
        self.assertIs(is_web(thing), True)
        self.assertIs(need_web(thing), None)

    def no_web(self, thing):
        self.assertIs(is_web(thing), False)
        with self.assertRaises(ValueError) as caught:
            need_web(thing)
        self.assertIs(caught.exception.__class__, BadWeb)
        self.assertIsInstance(caught.exception, TuneError)
        self.assertNotIsInstance(caught.exception, OTHERS)


class Webs(Looking):
    def test_webs(self):
        self.a_web(ONE)
        self.a_web(THREE)
        self.a_web((("a", "b"), 60, ((0, 0), (0, 0)), (0, 2 ** 60 - 1)))
        for many in range(1, 25):
            for gap in range(6):
                self.a_web(of_stations(many, 60, gap))
        for tunes in range(1, 61):
            self.a_web(of_stations(24, tunes))

    def test_no_webs(self):
        for thing in THINGS:
            self.no_web(thing)

    def test_a_part_too_few_or_too_many(self):
        self.no_web(THREE[:3])
        self.no_web(THREE[1:])
        self.no_web(THREE + (None,))
        self.no_web(THREE + (LISTS,))
        self.no_web(THREE + THREE)
        self.no_web((THREE,))

    def test_a_list_of_parts(self):
        self.no_web(list(THREE))
        self.no_web(dict(enumerate(THREE)))
        self.no_web(dict.fromkeys(THREE[:1]))

    def test_things_of_other_kinds_as_parts(self):
        for at in range(4):
            for thing in THINGS:
                self.no_web(with_part(at, thing))

    def test_other_parts_are_not_looked_at_for_less(self):
        for at in range(4):
            self.no_web(with_part(at, Odd()))
            self.no_web(tuple(part if k == at else Odd() for k, part in enumerate(THREE)))

    def test_parts_as_lists(self):
        for at in (0, 2, 3):
            self.no_web(with_part(at, list(THREE[at])))
        self.no_web(with_part(2, (GAPS[0], list(GAPS[1]), GAPS[2])))
        self.no_web(with_part(2, tuple(map(list, GAPS))))

    def test_parts_of_another_count_of_stations(self):
        for at in (0, 2, 3):
            self.no_web(with_part(at, THREE[at][:2]))
            self.no_web(with_part(at, THREE[at] + (("d",) if at == 0 else THREE[at][:1])))
        self.no_web(with_part(2, tuple(row[:2] for row in GAPS)))


class Names(Looking):
    def test_any_texts(self):
        for names in (("", " ", "\n"), ("Oslo", "tunes", "near"), ("a" * 100, "a" * 101, "-1"), ("a", "A", "a ")):
            self.a_web(with_part(0, names))

    def test_names_twice(self):
        for names in (("a", "a", "c"), ("a", "b", "a"), ("b", "a", "a"), ("a", "a", "a"), ("", "b", "")):
            self.no_web(with_part(0, names))

    def test_no_texts(self):
        for at in range(3):
            for thing in THINGS:
                if not isinstance(thing, str):
                    self.no_web(with_part(0, NAMES[:at] + (thing,) + NAMES[at + 1:]))
        self.no_web(with_part(0, "abc"))

    def test_none_and_twenty_five(self):
        self.no_web(((), 3, (), ()))
        self.no_web(of_stations(0))
        self.a_web(of_stations(24))
        self.no_web(of_stations(25))
        self.no_web(of_stations(26))


class Many(Looking):
    def test_from_one_to_sixty(self):
        for many in (-1, 0, 61, 62, 10 ** 900, -10 ** 900):
            self.no_web((("a",), many, ((0,),), (0,)))
        for many in (1, 2, 60):
            self.a_web((("a",), many, ((0,),), (0,)))

    def test_true_is_no_number(self):
        self.no_web((("a",), True, ((0,),), (1,)))
        self.no_web((("a",), False, ((0,),), (0,)))


class Gaps(Looking):
    def test_rows_too_short_and_too_long(self):
        for at in range(3):
            for row in ((), GAPS[at][:2], GAPS[at] + (0,)):
                self.no_web(with_part(2, GAPS[:at] + (row,) + GAPS[at + 1:]))

    def test_from_nought_to_five(self):
        for gap in (-1, 6, -5, 7, 10 ** 900, -10 ** 900):
            self.no_web((("a", "b"), 4, ((0, gap), (gap, 0)), (1, 1)))
        for gap in range(6):
            self.a_web((("a", "b"), 4, ((0, gap), (gap, 0)), (1, 1)))

    def test_nought_with_itself(self):
        for i in range(3):
            for gap in (-1, 1, 5, 6):
                self.no_web(with_gap(i, i, gap))
        self.no_web((("a",), 1, ((1,),), (1,)))

    def test_alike_either_way_about(self):
        for i in range(3):
            for j in range(3):
                if i != j:
                    for gap in range(6):
                        found = with_gap(i, j, gap)
                        if gap == GAPS[i][j]:
                            self.a_web(found)
                        else:
                            self.no_web(found)

    def test_other_kinds(self):
        for i in range(3):
            for j in range(3):
                for thing in THINGS:
                    if thing.__class__ is not int:
                        self.no_web(with_gap(i, j, thing))
        for one in (True, False):
            self.no_web((("a", "b"), 4, ((0, one), (one, 0)), (1, 1)))
            self.no_web((("a", "b"), 4, ((0, int(one)), (one, 0)), (1, 1)))
        self.no_web((("a",), 1, ((False,),), (1,)))


class Lists(Looking):
    def test_from_nought_to_all_tunes(self):
        for many in (1, 2, 4, 59, 60):
            for bits in (-1, 2 ** many, 2 ** many + 1, -2 ** many, 10 ** 900):
                self.no_web((("a",), many, ((0,),), (bits,)))
                self.no_web((("a", "b"), many, ((0, 1), (1, 0)), (1, bits)))
            for bits in (0, 1, 2 ** many - 1, 2 ** (many - 1)):
                self.a_web((("a",), many, ((0,),), (bits,)))

    def test_other_kinds(self):
        for at in range(3):
            for thing in THINGS:
                if thing.__class__ is not int:
                    self.no_web(with_part(3, LISTS[:at] + (thing,) + LISTS[at + 1:]))
        self.no_web((("a",), 1, ((0,),), (True,)))
        self.no_web((("a",), 1, ((0,),), (False,)))


class Handed(Looking):
    def test_what_is_handed_in_is_not_changed(self):
        deep = []
        for _ in range(49):
            deep = [deep]
        for thing in (list(map(list, THREE[2])), {"a": [1]}, [THREE], THREE, deep):
            before = copy.deepcopy(thing)
            for _ in range(2):
                if thing is THREE:
                    self.a_web(thing)
                else:
                    self.no_web(thing)
                    self.no_web(with_part(2, thing))
            self.assertEqual(thing, before)


if __name__ == "__main__":
    unittest.main()
