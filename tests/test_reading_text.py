"""What is a text of a field: tunehall/reading.py, points 1 and 20 to 23."""

import unittest

from tunehall.errors import BadNumber, BadText, Lacking, TuneError, Twice
from tunehall.reading import read

LEAST = "tunes 3\nnear 10 1\nstation a 0 0"
LEAST_FIELD = (3, ((10, 1),), (("a", 0, 0),), (), (), ())
LETTERS = "abcdefghijklmnopqrstuvwx"
OTHERS = (Lacking, Twice, BadNumber)


def text_of(*rows):
    return "\n".join(rows)


def stations(many):
    return [f"station {LETTERS[at % 24]}{at // 24} {at} {-at}" for at in range(many)]


def pairs(many):
    every = [(one, other) for other in range(24) for one in range(other)]
    return [f"apart {LETTERS[one]}0 {LETTERS[other]}0 5" for one, other in every[:many]]


def bars(many):
    return [f"bar {LETTERS[at % 24]}0 {at // 24}" for at in range(many)]


class Refusing(unittest.TestCase):
    def bad_text(self, text, at):
        with self.assertRaises(BadText) as caught:
            read(text)
        error = caught.exception
        self.assertIs(error.__class__, BadText)
        self.assertIsInstance(error, TuneError)
        self.assertIsInstance(error, ValueError)
        self.assertNotIsInstance(error, OTHERS)
        self.assertEqual((error.at, error.at.__class__), (at, at.__class__))


class Fields(Refusing):
    def told(self, text, field):
        found = read(text)
        self.assertEqual(found, field)
        self.all_own_kinds(found)

    def all_own_kinds(self, thing):
        self.assertIn(thing.__class__, (tuple, int, str))
        if thing.__class__ is tuple:
            for part in thing:
                self.all_own_kinds(part)

    def test_the_least_field(self):
        self.told(LEAST, LEAST_FIELD)

    def test_a_field_of_all_sorts(self):
        text = text_of(
            "# the north", "tunes 12", "", "near 15 3   # side by side", "near 40 1", "  ",
            "station oslo 0 0", "station b2 -30 1000000", "   station   c   7   -9   ",
            "apart oslo b2 0", "apart c oslo 5", "#", "fix c 11", "fix oslo 0", "bar c 11", "bar c 3",
            "bar oslo 3#, too", "")
        self.told(text, (
            12, ((15, 3), (40, 1)),
            (("oslo", 0, 0), ("b2", -30, 1000000), ("c", 7, -9)),
            (("oslo", "b2", 0), ("c", "oslo", 5)),
            (("c", 11), ("oslo", 0)),
            (("c", 11), ("c", 3), ("oslo", 3))))

    def test_in_the_order_of_the_rows(self):
        text = text_of("tunes 9", "near 1 5", "near 2 4", "near 3 3", "station z 9 9", "station a 1 1", "station m 5 5",
                       "apart m a 2", "apart a z 1", "fix z 8", "fix a 0", "bar z 8", "bar a 7", "bar a 0")
        self.told(text, (
            9, ((1, 5), (2, 4), (3, 3)), (("z", 9, 9), ("a", 1, 1), ("m", 5, 5)),
            (("m", "a", 2), ("a", "z", 1)), (("z", 8), ("a", 0)), (("z", 8), ("a", 7), ("a", 0))))

    def test_some_sorts_may_be_none(self):
        for row, at, told in (("apart a b 1", 3, ("a", "b", 1)), ("fix a 1", 4, ("a", 1)), ("bar b 2", 5, ("b", 2))):
            field = [3, ((10, 1),), (("a", 0, 0), ("b", 1, 1)), (), (), ()]
            field[at] = (told,)
            self.told(text_of(LEAST, "station b 1 1", row), tuple(field))

    def test_blanks_and_remarks(self):
        self.told("  tunes  3#\nnear 10 1 # x\n\n   # y\nstation   a 0 0 ", LEAST_FIELD)
        self.told("#\n#tunes 1\n" + LEAST + "\n#station b 0 0", LEAST_FIELD)
        self.told(text_of("tunes 3 # tunes 4", "near 10 1#0", "station a 0 0 # 5 5"), LEAST_FIELD)

    def test_a_text_that_ends_in_a_line_end(self):
        self.told(LEAST + "\n", LEAST_FIELD)
        self.told(LEAST + "\n\n\n", LEAST_FIELD)
        self.told("\n" + LEAST, LEAST_FIELD)

    def test_told_anew_each_time(self):
        text = text_of(LEAST, "station b 1 1", "apart a b 1", "fix a 1", "bar a 1")
        self.assertEqual(read(text), read(text))

    def test_the_same_after_a_refusal(self):
        before = read(LEAST)
        self.bad_text("tunes", 0)
        self.bad_text(None, None)
        self.assertEqual(read(LEAST), before)
        self.assertEqual(before, LEAST_FIELD)


class WholeTexts(Refusing):
    def test_no_text_at_all(self):
        things = (None, True, False, 0, 7, 1.5, b"", LEAST.encode(), bytearray(b"tunes 3"), (), [], [LEAST],
                  (LEAST,), {}, {LEAST: LEAST}, set(), {LEAST}, object(), str, len, read, LEAST_FIELD,
                  LEAST.split("\n"), iter(LEAST), ValueError(LEAST))
        for thing in things:
            self.bad_text(thing, None)

    def test_what_is_refused_is_not_changed(self):
        rows = LEAST.split("\n")
        self.bad_text(rows, None)
        self.assertEqual(rows, LEAST.split("\n"))

    def test_how_many_signs(self):
        for filler in ("#", " ", "\n#" + "x" * 100):
            full = (LEAST + "\n#" + filler * 8000)[:8000]
            self.assertEqual(len(full), 8000)
            self.assertEqual(read(full), LEAST_FIELD)
            self.bad_text(full + "x", None)
            self.bad_text(full + " ", None)
            self.bad_text(full + "\n", None)

    def test_how_many_rows(self):
        self.assertEqual(LEAST.count("\n"), 2)
        for row in ("", "#", "  # x"):
            full = LEAST + ("\n" + row) * 697
            self.assertEqual(len(full.split("\n")), 700)
            self.assertEqual(read(full), LEAST_FIELD)
            self.bad_text(full + "\n", None)
            self.bad_text("\n" + full, None)
            self.bad_text(full + "\n#", None)

    def test_too_long_is_told_ahead_of_the_rows(self):
        self.bad_text("what?\n" + "#" * 8000, None)
        self.bad_text("what?" + "\n" * 700, None)
        self.bad_text("what?" + "\n" * 699, 0)
        self.bad_text("#" * 8001, None)
        self.bad_text("#" * 8000, 1)

    def test_the_empty_text(self):
        self.bad_text("", 1)
        self.bad_text("\n", 2)
        self.bad_text(" ", 1)
        self.bad_text("# tunes 3", 1)
        self.bad_text("\n" * 699, 700)
        self.bad_text("\n" * 700, None)


class Rows(Refusing):
    def bad_row(self, row, *ahead):
        """The row is refused behind such rows, wherever it then stands."""
        for passed in ((), ("",), ("", "# x", "  ")):
            rows = (*ahead, *passed)
            self.bad_text(text_of(*rows, row), len(rows))
            self.bad_text(text_of(*rows, row, "", "what?"), len(rows))

    def test_no_such_row(self):
        ahead = LEAST.split("\n")
        for row in ("what?", "Station b 0 0", "stations b 0 0", "b", "0", "-", "station,b,0,0", "stationb 0 0",
                    "near10 1", "none", "STATION b 0 0", "\tstation b 0 0", "station\tb 0 0", "?# station b 0 0"):
            self.bad_row(row)
            self.bad_row(row, *ahead)

    def test_how_many_words(self):
        for ahead, whole in (
                ((), "tunes 3"), (("tunes 3",), "near 10 1"), (("tunes 3", "near 10 1"), "station b 0 0"),
                (LEAST.split("\n"), "apart a a 1"), (LEAST.split("\n"), "fix a 1"), (LEAST.split("\n"), "bar a 1")):
            words = whole.split()
            for many in range(1, len(words)):
                self.bad_row(" ".join(words[:many]), *ahead)
                self.bad_row(" ".join(words[:many]) + " # " + " ".join(words[many:]), *ahead)
            for more in ("1", "a", "#x"):
                row = whole + " " + more
                if more != "#x":
                    self.bad_row(row, *ahead)

    def test_which_words_are_numbers(self):
        forms = (((), "tunes {}"), (("tunes 3",), "near {} 1"), (("tunes 3",), "near 10 {}"),
                 (("tunes 3", "near 10 1"), "station b {} 0"), (("tunes 3", "near 10 1"), "station b 0 {}"),
                 (LEAST.split("\n"), "apart a a {}"), (LEAST.split("\n"), "fix a {}"),
                 (LEAST.split("\n"), "bar a {}"))
        for ahead, form in forms:
            for word in ("a", "01", "-0", "00", "+1", "12345678", "-12345678", "1.0", "--1", "-", "1-", "x1"):
                self.bad_row(form.format(word), *ahead)

    def test_which_words_are_names(self):
        forms = (("tunes 3\nnear 10 1".split("\n"), "station {} 0 0"), (LEAST.split("\n"), "apart {} a 1"),
                 (LEAST.split("\n"), "apart a {} 1"), (LEAST.split("\n"), "fix {} 1"), (LEAST.split("\n"), "bar {} 1"))
        for ahead, form in forms:
            for word in ("A", "1a", "abcdefghi", "a-b", "a_b", "tunes", "near", "station", "apart", "fix", "bar",
                         "0", "-1", "aB", "a."):
                self.bad_row(form.format(word), *ahead)

    def test_names_of_one_and_eight_signs(self):
        for name in ("b", "abcdefgh", "b2345678"):
            field = read(text_of(LEAST, f"station {name} 1 2"))
            self.assertEqual(field[2], (("a", 0, 0), (name, 1, 2)))

    def test_numbers_of_seven_figures_are_rows(self):
        for row in ("station b 9999999 0", "station b 0 -9999999"):
            with self.assertRaises(BadNumber):
                read(text_of(LEAST, row))

    def test_behind_one_of_a_later_sort(self):
        rows = ("tunes 3", "near 10 1", "station a 0 0", "apart a b 1", "fix a 1", "bar a 1")
        for later in range(6):
            for sort in range(later):
                more = ("near 20 1", "station b 0 0")
                row = more[sort - 1] if sort in (1, 2) else rows[sort]
                self.bad_row(row, rows[later])
        self.bad_row("tunes 3", "near 10 1", "station a 0 0")
        self.bad_row("station b 0 0", *LEAST.split("\n"), "bar a 1")
        self.bad_row("fix a 1", *LEAST.split("\n"), "bar a 1", "bar a 2")

    def test_one_tunes(self):
        self.bad_row("tunes 3", "tunes 3")
        self.bad_row("tunes 4", "tunes 3")

    def test_five_of_near(self):
        rows = [f"near {at * 10} {5 - at}" for at in range(5)]
        field = read(text_of("tunes 3", *rows, "station a 0 0"))
        self.assertEqual(field[1], ((0, 5), (10, 4), (20, 3), (30, 2), (40, 1)))
        self.bad_row("near 50 1", "tunes 3", *rows)
        self.bad_text(text_of("tunes 3", *rows, "near 50 0", "station a 0 0"), 6)

    def test_twenty_four_of_station(self):
        rows = stations(24)
        field = read(text_of("tunes 3", "near 1 1", *rows))
        self.assertEqual(len(field[2]), 24)
        self.assertEqual(field[2][23], ("x0", 23, -23))
        self.bad_row(stations(25)[24], "tunes 3", "near 1 1", *rows)

    def test_two_hundred_of_apart(self):
        ahead = ("tunes 3", "near 1 1", *stations(24))
        field = read(text_of(*ahead, *pairs(200)))
        self.assertEqual(len(field[3]), 200)
        self.assertEqual(field[3][0], ("a0", "b0", 5))
        self.bad_row(pairs(201)[200], *ahead, *pairs(200))

    def test_two_hundred_of_bar(self):
        ahead = ("tunes 20", "near 1 1", *stations(24))
        field = read(text_of(*ahead, *bars(200)))
        self.assertEqual(len(field[5]), 200)
        self.assertEqual(field[5][199], ("h0", 8))
        self.bad_row(bars(201)[200], *ahead, *bars(200))

    def test_two_hundred_of_fix(self):
        # No more than 24 stations can be fixed, so 200 rows are refused, but not as a text.
        ahead = ("tunes 3", "near 1 1", *stations(24))
        rows = [f"fix {LETTERS[at % 24]}0 1" for at in range(201)]
        self.assertEqual(len(read(text_of(*ahead, *rows[:24]))[4]), 24)
        with self.assertRaises(Twice) as caught:
            read(text_of(*ahead, *rows[:200]))
        self.assertEqual((caught.exception.row, caught.exception.name), (50, "a0"))
        self.bad_row(rows[200], *ahead, *rows[:200])

    def test_all_sorts_full(self):
        fixed = [f"fix {name}0 0" for name in LETTERS]
        near = [f"near {at} {5 - at}" for at in range(5)]
        text = text_of("tunes 20", *near, *stations(24), *pairs(200), *fixed, *bars(200))
        self.assertEqual([len(part) for part in read(text)[1:]], [5, 24, 200, 24, 200])


class Lackings(Refusing):
    def test_tunes_near_or_station_is_lacking(self):
        rows = LEAST.split("\n")
        for at in range(3):
            kept = rows[:at] + rows[at + 1:]
            self.bad_text(text_of(*kept), 2)
            self.bad_text(text_of(*kept, ""), 3)
            self.bad_text(text_of("#", *kept, "  ", "# x"), 5)
            self.bad_text(text_of(rows[at]), 1)
            self.bad_text(text_of("", rows[at], ""), 3)
            self.bad_text(text_of(*kept, "apart a b 1", "fix a 1", "bar a 1"), 5)

    def test_only_told_at_the_end(self):
        self.bad_text(text_of("near 10 1", "what?", "station a 0 0"), 1)
        self.bad_text(text_of("station a 0 0", "near 10 1"), 1)
        self.bad_text(text_of("bar a 1", "fix a 1"), 1)
        self.bad_text(text_of("tunes 3", "station a 0 0", "station a 0 a"), 2)


class Order(Refusing):
    def test_of_several_rows_the_first(self):
        self.bad_text(text_of("tunes 3", "near 1 x", "what?", "tunes 3"), 1)
        self.bad_text(text_of(LEAST, "near 20 1", "what?"), 3)
        self.bad_text(text_of("tunes 3", "tunes 3", "what?"), 1)

    def test_what_is_no_text_is_told_ahead_of_bad_numbers_and_names(self):
        for row in ("what?", "tunes 3", "near 20 1", "station b 0"):
            self.bad_text(text_of("tunes 0", "near -1 9", "station a 0 0", "station a 9000000 0", "apart b c 9",
                                  "fix x 1", "bar x 99", row), 7)
        self.bad_text(text_of("tunes 61", "near 10 1"), 2)
        self.bad_text(text_of("tunes 61", "station a 0 0", "station a 0 0"), 3)

    def test_one_too_many_is_told_ahead_of_twice(self):
        ahead = ("tunes 0", "near 1 1", *stations(24))
        self.bad_text(text_of(*ahead, "station a0 0 0"), 26)
        self.bad_text(text_of(*ahead, *["apart a0 a0 9"] * 201), 226)
        self.bad_text(text_of(*ahead, *["fix a0 1"] * 201), 226)
        self.bad_text(text_of(*ahead, *["bar a0 1"] * 201), 226)


if __name__ == "__main__":
    unittest.main()
