"""A field shown as a text: tunehall/showing.py, points 1 and 25."""

import random
import unittest

from tunehall.errors import BadText
from tunehall.reading import read
from tunehall.showing import shown

LETTERS = "abcdefghijklmnopqrstuvwx"
LEAST = (3, ((10, 1),), (("a", 0, 0),), (), (), ())
FULL = (
    12, ((15, 3), (40, 1)), (("oslo", 0, 0), ("bergen", -30, 5), ("x1", 7, -1000000)),
    (("oslo", "bergen", 3), ("x1", "oslo", 0)), (("oslo", 4), ("bergen", 0)),
    (("bergen", 0), ("bergen", 11), ("x1", 1)))
FULL_ROWS = [
    "tunes 12", "near 15 3", "near 40 1", "station oslo 0 0", "station bergen -30 5", "station x1 7 -1000000",
    "apart oslo bergen 3", "apart x1 oslo 0", "fix oslo 4", "fix bergen 0", "bar bergen 0", "bar bergen 11", "bar x1 1"]


def random_field(chance):
    """Some field; chance tells what to take."""
    many = chance.randint(1, 60)
    fars = sorted(chance.sample(range(1000001), 5))
    gaps = sorted(chance.sample(range(1, 6), chance.randint(1, 5)), reverse=True)
    names = [letter * chance.randint(1, 8) for letter in LETTERS[:chance.randint(1, 24)]]
    chance.shuffle(names)
    places = [(name, chance.randint(-1000000, 1000000), chance.randint(-99, 99)) for name in names]
    every = [(one, other) for at, one in enumerate(names) for other in names[:at]]
    pairs = [(*pair, chance.randint(0, 5)) for pair in chance.sample(every, min(len(every), chance.randint(0, 30)))]
    fixed = [(name, chance.randrange(many)) for name in chance.sample(names, chance.randint(0, len(names)))]
    every = [(name, tune) for name in names for tune in range(many)]
    barred = chance.sample(every, min(len(every), chance.randint(0, 30)))
    return (many, tuple(zip(fars, gaps)), tuple(places), tuple(pairs), tuple(fixed), tuple(barred))


class Showing(unittest.TestCase):
    def told(self, field, rows):
        text = shown(field)
        self.assertIs(text.__class__, str)
        self.assertEqual(text, "\n".join(rows))
        self.assertEqual(read(text), field)
        self.assertEqual(shown(field), text)

    def test_a_field_without_apart_fix_and_bar(self):
        self.told(LEAST, ["tunes 3", "near 10 1", "station a 0 0"])

    def test_a_field_of_all_sorts(self):
        self.told(FULL, FULL_ROWS)

    def test_rows_of_one_sort_alone(self):
        field = (*LEAST[:2], (("a", 0, 0), ("b", 0, 0)), (("b", "a", 5),), (), ())
        rows = ["tunes 3", "near 10 1", "station a 0 0", "station b 0 0"]
        self.told(field, [*rows, "apart b a 5"])
        self.told((*field[:3], (), (("b", 2),), ()), [*rows, "fix b 2"])
        self.told((*field[:3], (), (), (("b", 2),)), [*rows, "bar b 2"])

    def test_rows_stand_as_they_are_in_the_field(self):
        # Neither by names nor by numbers.
        field = (9, ((1, 2),), (("z", 5, 5), ("b", 1, 1), ("y", -1, -1)),
                 (("y", "b", 0), ("b", "z", 4)), (("y", 3), ("b", 1)), (("z", 8), ("b", 0), ("z", 2)))
        self.told(field, ["tunes 9", "near 1 2", "station z 5 5", "station b 1 1", "station y -1 -1", "apart y b 0",
                          "apart b z 4", "fix y 3", "fix b 1", "bar z 8", "bar b 0", "bar z 2"])

    def test_numbers_below_nought_and_at_the_ends(self):
        for x, y in ((-1, 0), (0, -1), (-1000000, -1000000), (1000000, 1000000), (-999999, 999999)):
            self.told((60, ((0, 5), (1000000, 1)), (("abcdefg8", x, y),), (), (), ()),
                      ["tunes 60", "near 0 5", "near 1000000 1", f"station abcdefg8 {x} {y}"])

    def test_no_line_end_behind_the_last_row(self):
        for field in (LEAST, FULL):
            text = shown(field)
            self.assertFalse(text.endswith("\n"))
            self.assertFalse(text.startswith("\n"))
            self.assertNotIn("\n\n", text)
            self.assertNotIn("  ", text)
            self.assertEqual(text.count("\n") + 1, 1 + sum(map(len, field[1:])))

    def test_what_is_left_out_of_a_text_is_not_shown(self):
        text = "# remark\n\n  tunes   3 # three\nnear 10   1\n\nstation a 0 0\n"
        self.assertEqual(shown(read(text)), "tunes 3\nnear 10 1\nstation a 0 0")

    def test_read_as_this_field(self):
        chance = random.Random(25)
        for _ in range(200):
            field = random_field(chance)
            text = shown(field)
            self.assertEqual(read(text), field)
            self.assertEqual(shown(read(text)), text)

    def test_up_to_eight_thousand_signs(self):
        names = [letter * 8 for letter in LETTERS]
        stations = tuple((name, -1000000, -1000000) for name in names)
        pairs = tuple((one, other, 5) for at, one in enumerate(names) for other in names[:at])[:200]
        bars = tuple((name, tune) for name in names for tune in range(50, 59))
        seen = []
        for many in range(201):
            field = (60, ((1000000, 1),), stations, pairs, (), bars[:many])
            text = shown(field)
            if len(text) <= 8000:
                self.assertEqual(read(text), field)
            else:
                # As long as that it is shown, too, but no text of a field any more.
                self.assertEqual(text.count("\n"), 225 + many)
                with self.assertRaises(BadText):
                    read(text)
            seen.append(len(text) <= 8000)
        self.assertEqual(sorted(set(seen)), [False, True])

    def test_what_is_handed_in_is_not_changed(self):
        field = read("\n".join(FULL_ROWS))
        shown(field)
        self.assertEqual(field, FULL)


if __name__ == "__main__":
    unittest.main()
