"""What is looked through row by row: tunehall/reading.py, point 24."""

import unittest

from tunehall.errors import BadNumber, BadText, Lacking, TuneError, Twice
from tunehall.reading import read

AHEAD = ("tunes 5", "near 10 2", "station a 0 0", "station b 3 4", "station c 6 8")


class Looking(unittest.TestCase):
    def refused(self, kind, fields, *rows):
        """These rows are refused so, and with passed-over rows ahead, too."""
        for passed in ((), ("", "# x", " ")):
            with self.assertRaises(ValueError) as caught:
                read("\n".join((*passed, *rows)))
            error = caught.exception
            self.assertIs(error.__class__, kind)
            self.assertIsInstance(error, TuneError)
            self.assertNotIsInstance(error, tuple({BadText, BadNumber, Lacking, Twice} - {kind}))
            self.assertEqual(error.row, fields[0] + len(passed))
            self.assertIs(error.row.__class__, int)
            if kind is not BadNumber:
                self.assertEqual(error.name, fields[1])
                self.assertIs(error.name.__class__, str)

    def bad_number(self, row, *rows):
        self.refused(BadNumber, (row,), *rows)

    def twice(self, row, name, *rows):
        self.refused(Twice, (row, name), *rows)

    def lacking(self, row, name, *rows):
        self.refused(Lacking, (row, name), *rows)

    def field(self, *rows):
        return read("\n".join(rows))


class Tunes(Looking):
    def test_from_one_to_sixty(self):
        for many in (1, 2, 59, 60):
            self.assertEqual(self.field(f"tunes {many}", *AHEAD[1:])[0], many)
        for many in (0, -1, -60, 61, 62, 9999999, -9999999):
            self.bad_number(0, f"tunes {many}", *AHEAD[1:])


class Near(Looking):
    def near(self, *rows):
        return self.field("tunes 5", *rows, "station a 0 0")[1]

    def bad_near(self, row, *rows):
        self.bad_number(row, "tunes 5", *rows, "station a 0 0")

    def test_how_far(self):
        for far in (0, 1, 999999, 1000000):
            self.assertEqual(self.near(f"near {far} 2"), ((far, 2),))
        for far in (-1, -1000000, 1000001, 9999999):
            self.bad_near(1, f"near {far} 2")

    def test_which_gap(self):
        for gap in (1, 2, 3, 4, 5):
            self.assertEqual(self.near(f"near 7 {gap}"), ((7, gap),))
        for gap in (0, -1, 6, 7, 100):
            self.bad_near(1, f"near 7 {gap}")

    def test_ever_farther(self):
        self.assertEqual(self.near("near 7 3", "near 8 2"), ((7, 3), (8, 2)))
        self.assertEqual(self.near("near 0 3", "near 1 2", "near 1000000 1"), ((0, 3), (1, 2), (1000000, 1)))
        for far in (7, 6, 0, -1):
            self.bad_near(2, "near 7 3", f"near {far} 2")
        self.bad_near(3, "near 7 3", "near 9 2", "near 8 1")
        self.bad_near(3, "near 7 3", "near 9 2", "near 9 1")
        self.bad_near(2, "near 1000000 3", "near 1000001 2")

    def test_ever_smaller_gaps(self):
        self.assertEqual(self.near("near 7 5", "near 8 4"), ((7, 5), (8, 4)))
        self.assertEqual(self.near("near 7 5", "near 8 1"), ((7, 5), (8, 1)))
        for gap in (3, 4, 5, 6):
            self.bad_near(2, "near 7 3", f"near 8 {gap}")
        self.bad_near(3, "near 7 5", "near 8 2", "near 9 2")
        self.bad_near(3, "near 7 5", "near 8 2", "near 9 3")
        self.bad_near(2, "near 7 1", "near 8 0")

    def test_only_the_row_ahead_counts(self):
        self.bad_near(2, "near 7 3", "near 7 2", "near 0 9")


class Station(Looking):
    def test_where(self):
        for place in (0, 1, -1, 999999, 1000000, -999999, -1000000):
            self.assertEqual(self.field(*AHEAD, f"station d {place} 5")[2][3], ("d", place, 5))
            self.assertEqual(self.field(*AHEAD, f"station d 5 {place}")[2][3], ("d", 5, place))
        for place in (1000001, -1000001, 9999999, -9999999):
            self.bad_number(5, *AHEAD, f"station d {place} 5")
            self.bad_number(5, *AHEAD, f"station d 5 {place}")
            self.bad_number(2, *AHEAD[:2], f"station d 5 {place}")

    def test_a_name_that_is_there(self):
        for name in "abc":
            self.twice(5, name, *AHEAD, f"station {name} 100 100")
        self.twice(3, "a", *AHEAD[:3], "station a 0 0")
        self.assertEqual(self.field(*AHEAD, "station d 0 0")[2][3], ("d", 0, 0))
        self.assertEqual(self.field(*AHEAD, "station aa 0 0")[2][3], ("aa", 0, 0))

    def test_twice_is_told_ahead_of_bad_number(self):
        self.twice(5, "b", *AHEAD, "station b 1000001 0")
        self.twice(5, "b", *AHEAD, "station b 0 -1000001")


class Apart(Looking):
    def test_which_gap(self):
        for gap in (0, 1, 2, 3, 4, 5):
            self.assertEqual(self.field(*AHEAD, f"apart a b {gap}")[3], (("a", "b", gap),))
        for gap in (-1, 6, 7, -5, 9999999):
            self.bad_number(5, *AHEAD, f"apart a b {gap}")

    def test_a_name_that_no_station_has(self):
        self.lacking(5, "x", *AHEAD, "apart x a 1")
        self.lacking(5, "y", *AHEAD, "apart a y 1")
        self.lacking(5, "x", *AHEAD, "apart x y 1")
        self.lacking(5, "x", *AHEAD, "apart x x 1")
        self.lacking(6, "y", *AHEAD, "apart a b 1", "apart b y 1")

    def test_both_are_one(self):
        for name in "abc":
            self.twice(5, name, *AHEAD, f"apart {name} {name} 1")

    def test_a_pair_that_stands_ahead(self):
        self.twice(6, "a", *AHEAD, "apart a b 1", "apart a b 1")
        self.twice(6, "b", *AHEAD, "apart a b 1", "apart b a 1")
        self.twice(6, "a", *AHEAD, "apart b a 1", "apart a b 2")
        self.twice(8, "c", *AHEAD, "apart a b 1", "apart b c 1", "apart c a 0", "apart c b 1")
        pairs = self.field(*AHEAD, "apart a b 1", "apart c b 1", "apart a c 2")[3]
        self.assertEqual(pairs, (("a", "b", 1), ("c", "b", 1), ("a", "c", 2)))

    def test_in_this_order(self):
        self.lacking(6, "x", *AHEAD, "apart a b 1", "apart x x 9")
        self.twice(5, "a", *AHEAD, "apart a a 6")
        self.twice(6, "b", *AHEAD, "apart a b 1", "apart b a -1")
        self.lacking(5, "x", *AHEAD, "apart a x 6")


class Fix(Looking):
    def test_which_tune(self):
        for tune in (0, 1, 3, 4):
            self.assertEqual(self.field(*AHEAD, f"fix b {tune}")[4], (("b", tune),))
        for tune in (-1, 5, 6, 60, -9999999):
            self.bad_number(5, *AHEAD, f"fix b {tune}")
        self.assertEqual(self.field("tunes 1", *AHEAD[1:], "fix a 0")[4], (("a", 0),))
        self.bad_number(5, "tunes 1", *AHEAD[1:], "fix a 1")
        self.assertEqual(self.field("tunes 60", *AHEAD[1:], "fix a 59")[4], (("a", 59),))
        self.bad_number(5, "tunes 60", *AHEAD[1:], "fix a 60")

    def test_a_name_that_no_station_has(self):
        self.lacking(5, "x", *AHEAD, "fix x 1")
        self.lacking(6, "x", *AHEAD, "fix a 1", "fix x 1")

    def test_a_name_that_is_fixed(self):
        self.twice(6, "a", *AHEAD, "fix a 1", "fix a 1")
        self.twice(7, "a", *AHEAD, "fix a 1", "fix b 1", "fix a 2")
        self.assertEqual(self.field(*AHEAD, "fix a 1", "fix b 1")[4], (("a", 1), ("b", 1)))

    def test_in_this_order(self):
        self.lacking(5, "x", *AHEAD, "fix x 5")
        self.lacking(5, "x", *AHEAD, "fix x 5", "fix x 1")
        self.twice(6, "a", *AHEAD, "fix a 1", "fix a 5")


class Bar(Looking):
    def test_which_tune(self):
        for tune in (0, 1, 3, 4):
            self.assertEqual(self.field(*AHEAD, f"bar b {tune}")[5], (("b", tune),))
        for tune in (-1, 5, 6, 60, -9999999):
            self.bad_number(5, *AHEAD, f"bar b {tune}")
        self.bad_number(5, "tunes 1", *AHEAD[1:], "bar a 1")
        self.assertEqual(self.field("tunes 60", *AHEAD[1:], "bar a 59")[5], (("a", 59),))
        self.bad_number(5, "tunes 60", *AHEAD[1:], "bar a 60")

    def test_a_name_that_no_station_has(self):
        self.lacking(5, "x", *AHEAD, "bar x 1")
        self.lacking(6, "x", *AHEAD, "bar a 1", "bar x 1")

    def test_a_name_that_is_barred_that_tune(self):
        self.twice(6, "a", *AHEAD, "bar a 1", "bar a 1")
        self.twice(8, "a", *AHEAD, "bar a 1", "bar a 2", "bar b 1", "bar a 1")
        barred = self.field(*AHEAD, "bar a 1", "bar a 2", "bar b 1", "bar b 2")[5]
        self.assertEqual(barred, (("a", 1), ("a", 2), ("b", 1), ("b", 2)))

    def test_a_fixed_station_may_be_barred(self):
        field = self.field(*AHEAD, "fix a 1", "bar a 1")
        self.assertEqual(field[4:], ((("a", 1),), (("a", 1),)))

    def test_in_this_order(self):
        self.lacking(5, "x", *AHEAD, "bar x 5")
        self.bad_number(5, *AHEAD, "bar a 5", "bar a 5")


class Order(Looking):
    def test_of_several_rows_the_first(self):
        self.bad_number(0, "tunes 61", "near -1 2", "station a 0 0", "station a 0 0", "apart x a 1")
        self.bad_number(1, "tunes 6", "near -1 2", "station a 0 0", "station a 0 0", "apart x a 1")
        self.twice(3, "a", "tunes 6", "near 1 2", "station a 0 0", "station a 0 0", "apart x a 1")
        self.lacking(5, "x", *AHEAD, "apart x a 1", "apart a a 1", "fix a 9")
        self.twice(5, "a", *AHEAD, "apart a a 1", "apart a x 1", "fix x 9")
        self.bad_number(5, *AHEAD, "fix a 9", "fix a 9", "bar x 9")
        self.lacking(5, "x", *AHEAD, "fix x 1", "bar a 9")
        self.bad_number(4, *AHEAD[:4], "station c 1000001 0", "station c 1 0", "bar c 9")

    def test_row_is_that_of_the_text(self):
        self.bad_number(4, "", "# x", "tunes 5", "", "near 5 6", "", "station a 0 0")
        self.twice(7, "a", "tunes 5 # x", "#", "near 5 1", "", "", "station a 0 0", "   ", "station a 0 0", "#")


if __name__ == "__main__":
    unittest.main()
