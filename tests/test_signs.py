"""Names, numbers and words: tunehall/signs.py, point 20."""

import unittest

from tunehall.signs import is_name, number_in, words_of

ROW_WORDS = ("tunes", "near", "station", "apart", "fix", "bar")
SIGNS = [chr(code) for code in range(32, 127) if chr(code) != chr(37)] + ["\n"]
LETTERS = "abcdefghijklmnopqrstuvwxyz"
FIGURES = "0123456789"


class Names(unittest.TestCase):
    def test_names(self):
        for word in ("a", "z", "a0", "z9", "oslo", "abcdefgh", "a1234567", "z0z0z0z0"):
            self.assertIs(is_name(word), True, word)

    def test_how_many_signs(self):
        self.assertIs(is_name(""), False)
        for many in range(1, 12):
            self.assertIs(is_name("b" * many), many <= 8, many)
            self.assertIs(is_name("b" + "7" * (many - 1)), many <= 8, many)

    def test_each_sign_first_and_behind(self):
        for sign in SIGNS:
            self.assertIs(is_name(sign), sign in LETTERS, sign)
            self.assertIs(is_name(sign + "a"), sign in LETTERS, sign)
            self.assertIs(is_name("a" + sign), sign in LETTERS + FIGURES, sign)
            self.assertIs(is_name("ab" + sign + "c"), sign in LETTERS + FIGURES, sign)

    def test_words_of_rows_are_none(self):
        for word in ROW_WORDS:
            self.assertIs(is_name(word), False, word)

    def test_words_like_those_of_rows_are(self):
        for word in ("tune", "tuness", "nea", "nearr", "stations", "statio", "apar", "aparts", "fi", "fixx",
                     "ba", "bars", "fix1", "bar0", "tunes9", "xbar", "row", "none", "plan"):
            self.assertIs(is_name(word), True, word)

    def test_of_anything(self):
        things = (None, True, False, 0, 1, -5, 1.5, b"a", (), ("a",), [], ["a"], {}, {"a": 1}, set(), {"a"},
                  object(), str, len, Names, ValueError("a"), range(3), bytearray(b"a"))
        for thing in things:
            self.assertIs(is_name(thing), False, repr(thing))

    def test_what_is_handed_in_is_not_changed(self):
        things = ["a", ["b"]]
        is_name(things)
        self.assertEqual(things, ["a", ["b"]])


class Numbers(unittest.TestCase):
    def told(self, word, number):
        found = number_in(word)
        self.assertEqual(found, number, word)
        self.assertIs(found.__class__, int, word)

    def test_numbers(self):
        for number in (0, 1, 9, 10, 60, 100, 105, 9999999, 1000000, 1234567):
            self.told(str(number), number)
            if number:
                self.told("-" + str(number), -number)

    def test_how_many_figures(self):
        for many in range(1, 12):
            for sign in ("", "-"):
                word = sign + "1" * many
                if many <= 7:
                    self.told(word, int(word))
                else:
                    self.assertIsNone(number_in(word), word)

    def test_nought_first(self):
        self.told("0", 0)
        for word in ("-0", "00", "01", "-01", "-00", "007", "0000000", "-0000001", "0-1"):
            self.assertIsNone(number_in(word), word)

    def test_below_nought(self):
        self.told("-1", -1)
        for word in ("-", "--1", "- 1", "1-", "1-1", "+1", "+0", "-a", "-+1"):
            self.assertIsNone(number_in(word), word)

    def test_what_else_is_none(self):
        for word in ("", " ", "1 ", " 1", "1\n", "\n1", "1_0", "1e3", "0x1", "1.0", "a", "a1", "1a", "#1", "1#",
                     "true", "None", "12 34"):
            self.assertIsNone(number_in(word), word)

    def test_of_no_text(self):
        for thing in (None, 5, 0, True, b"5", (), ["5"], {}, object()):
            self.assertIsNone(number_in(thing), repr(thing))

    def test_each_sign(self):
        for sign in SIGNS:
            if sign in FIGURES:
                self.told(sign, FIGURES.index(sign))
                self.told("1" + sign, 10 + FIGURES.index(sign))
            else:
                self.assertIsNone(number_in(sign), sign)
                self.assertIsNone(number_in("1" + sign), sign)
                self.assertIsNone(number_in("1" + sign + "1"), sign)

    def test_all_small_numbers(self):
        for number in range(-1200, 1201):
            self.told(str(number), number)


class Words(unittest.TestCase):
    def test_words_are_parted_by_blanks_of_whatever_number(self):
        self.assertEqual(words_of("near 10 2"), ["near", "10", "2"])
        self.assertEqual(words_of("   near    10  2 "), ["near", "10", "2"])
        self.assertEqual(words_of("near"), ["near"])

    def test_no_words(self):
        for row in ("", " ", "    ", "#", "# a b", "   # a", "##", "#a#b"):
            self.assertEqual(words_of(row), [], row)

    def test_what_stands_behind_a_remark_sign_is_left_out(self):
        self.assertEqual(words_of("a b # c d"), ["a", "b"])
        self.assertEqual(words_of("a b#c d"), ["a", "b"])
        self.assertEqual(words_of("a #b # c"), ["a"])
        self.assertEqual(words_of("#a b"), [])
        self.assertEqual(words_of("a# "), ["a"])

    def test_words_whatever_they_are(self):
        self.assertEqual(words_of("? Oslo -01 +5 a_b 'x' ;"), ["?", "Oslo", "-01", "+5", "a_b", "'x'", ";"])
        for sign in SIGNS:
            if sign not in " #\n":
                self.assertEqual(words_of("a " + sign + " b" + sign), ["a", sign, "b" + sign])

    def test_told_anew_each_time(self):
        row = "near 10 2"
        told = words_of(row)
        told.append("more")
        told[0] = "far"
        self.assertEqual(words_of(row), ["near", "10", "2"])
        self.assertIsNot(words_of(row), words_of(row))
        nothing = words_of("")
        nothing.append("more")
        self.assertEqual(words_of(""), [])

    def test_a_list_of_texts(self):
        self.assertIs(words_of("a b").__class__, list)
        self.assertTrue(all(word.__class__ is str for word in words_of("a 1 -")))


if __name__ == "__main__":
    unittest.main()
