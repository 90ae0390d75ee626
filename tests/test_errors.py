"""The refusals: tunehall/errors.py."""

import unittest

from tunehall import errors
from tunehall.errors import (
    BadLine, BadNumber, BadPlan, BadShown, BadText, BadWeb, Lacking, NoPlan, TooMany, TuneError, Twice,
)

WITH_FIELDS = {
    BadText: ("at",),
    Lacking: ("row", "name"),
    Twice: ("row", "name"),
    BadNumber: ("row",),
}
OF_A_TEXT = (TooMany, BadWeb, BadPlan, BadShown, NoPlan, BadLine)
ALL = tuple(WITH_FIELDS) + OF_A_TEXT


class Odd:
    """A thing that can't be shown, compared or hashed."""

    __hash__ = None

    def __repr__(self):
        raise RuntimeError("not to be shown")

    def __eq__(self, other):
        raise RuntimeError("not to be compared")


class Classes(unittest.TestCase):
    def test_tune_error_is_a_value_error(self):
        self.assertEqual(TuneError.__bases__, (ValueError,))

    def test_each_stands_straight_under_tune_error(self):
        for kind in ALL:
            with self.subTest(kind=kind.__name__):
                self.assertEqual(kind.__bases__, (TuneError,))
                self.assertEqual(kind.__module__, "tunehall.errors")
                self.assertIs(getattr(errors, kind.__name__), kind)

    def test_none_is_another_one(self):
        for kind in ALL:
            for other in ALL:
                self.assertEqual(issubclass(kind, other), kind is other)

    def test_all_that_are_listed_and_no_more(self):
        found = [thing for thing in vars(errors).values()
                 if isinstance(thing, type) and issubclass(thing, Exception)]
        self.assertEqual(sorted(kind.__name__ for kind in found),
                         sorted(kind.__name__ for kind in ALL + (TuneError,)))

    def test_made_of_a_text(self):
        for kind in OF_A_TEXT + (TuneError,):
            with self.subTest(kind=kind.__name__):
                with self.assertRaises(TuneError) as caught:
                    raise kind("why")
                self.assertIs(caught.exception.__class__, kind)
                self.assertEqual(str(caught.exception), "why")


class Fields(unittest.TestCase):
    def made(self, kind, things):
        with self.assertRaises(ValueError) as caught:
            raise kind(*things)
        self.assertIs(caught.exception.__class__, kind)
        return caught.exception

    def test_fields_are_attributes_in_their_order(self):
        for kind, names in WITH_FIELDS.items():
            with self.subTest(kind=kind.__name__):
                things = tuple(range(7, 7 + len(names)))
                error = self.made(kind, things)
                self.assertEqual(tuple(getattr(error, name) for name in names), things)
                self.assertEqual({name: getattr(error, name) for name in names}, vars(error))

    def test_not_made_of_fewer_or_more_fields(self):
        for kind, names in WITH_FIELDS.items():
            for many in (len(names) - 1, len(names) + 1):
                with self.subTest(kind=kind.__name__, many=many), self.assertRaises(TypeError):
                    kind(*range(many))

    def test_of_any_things(self):
        things = (None, 0, -1, 10 ** 900, True, "", "a b", b"x", 1.5, (), [], {}, set(), frozenset((1,)),
                  (1, [2, {"a": (3, [4])}]), {(1, 2): [None]}, object(), Odd, len, TuneError("x"))
        for kind, names in WITH_FIELDS.items():
            for thing in things:
                error = self.made(kind, [thing] * len(names))
                for name in names:
                    self.assertEqual(getattr(error, name), thing)
                    self.assertIs(getattr(error, name).__class__, thing.__class__)
                self.assertIsInstance(str(error), str)
                self.assertIsInstance(repr(error), str)

    def test_of_a_thing_that_can_only_be_held(self):
        odd = Odd()
        for kind, names in WITH_FIELDS.items():
            error = self.made(kind, [odd] * len(names))
            for name in names:
                self.assertIs(getattr(error, name), odd)
            self.assertIsInstance(str(error), str)

    def test_of_fifty_lists_within_one_another(self):
        deep = "x"
        for _ in range(50):
            deep = [deep]
        self.assertEqual(BadText(deep).at, deep)

    def test_what_is_handed_in_may_change_later(self):
        for kind, names in WITH_FIELDS.items():
            inner = [1]
            thing = [inner, (inner, "x"), {"k": inner}]
            error = kind(*[thing] * len(names))
            inner.append(2)
            thing.append(3)
            thing[2]["more"] = 4
            for name in names:
                self.assertEqual(getattr(error, name), [[1], ([1], "x"), {"k": [1]}])

    def test_what_is_handed_in_is_not_changed(self):
        thing = [1, ([2], {"k": [3]})]
        for kind, names in WITH_FIELDS.items():
            error = kind(*[thing] * len(names))
            for name in names:
                getattr(error, name)[1][1]["k"].append(4)
        self.assertEqual(thing, [1, ([2], {"k": [3]})])


if __name__ == "__main__":
    unittest.main()
