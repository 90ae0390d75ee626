"""A desk: tunehall/desk.py, points 1 and 120."""

import random
import time
import unittest

from tests.made import THINGS, Looking
from tunehall.changes import least_changed
from tunehall.desk import Desk, answered
from tunehall.errors import BadLine, BadNumber, BadText, Lacking, Twice
from tunehall.fewest import fewest
from tunehall.needed import needed
from tunehall.reading import read
from tunehall.swaps import lowered, swapped
from tunehall.webs import web_of

SECONDS = 2
# Four in a row, each near to the next one, and one that hangs loosely.
ROW = """tunes 6
near 10 1
station a 0 0
station b 10 0
station c 20 0
station d 30 0
station e 100 0"""
PAIR = "tunes 3\nnear 10 2\nstation a 0 0\nstation b 10 0"
RING = "tunes 9\nnear 10 1\n" + "\n".join(
    f"station {name} {x} {y}" for name, x, y in (("a", 0, 0), ("b", 0, 10), ("c", 8, 15), ("d", 15, 8), ("e", 10, 0)))
ALONE = "tunes 4\nnear 0 1\nstation fewest 0 0"
LINES = ("plan 0 1 0 1 0", "plan 5 4 5 4 5", "plan 0 0 0 0 0", "plan 1 2 3", "plan", "fewest", "lower", "swap a 1",
         "swap b 2", "swap e 5", "swap x 1", "swap a 6", "swap a", "least 2", "least 6", "least 1", "least 0",
         "bar a 0", "bar b 1", "bar c 0", "bar z 0", "bar a 9", "fix d 3", "fix a 0", "fix e 5", "undo", "undo",
         "undo", "look",
         "state", "crowd 1", "crowd 6", "needed", "parts", "why", "", "what")
ASKED = ("look", "state", "crowd 1", "crowd 3", "needed", "parts", "why")


def of_text(text):
    """The web of a text."""
    return web_of(read(text))


def told_behind(text, ahead, line):
    """The answer to a line at a fresh desk behind some others."""
    return answered(text, [*ahead, line])[-1]


class Telling(Looking, unittest.TestCase):
    def answers(self, text, *told):
        """These lines, each with its answer, at one desk; and so at answered."""
        desk = Desk(text)
        lines = [line for line, _ in told]
        for line, wanted in told:
            found = desk.told(line)
            self.assertIs(found.__class__, str)
            self.assertEqual(found, wanted, line)
        self.assertEqual(answered(text, lines), [wanted for _, wanted in told])
        return desk

    def nothing_changes(self, text, ahead, line, wanted):
        """Behind a line that changes nothing all is as it was, and undo takes back what was ahead of it."""
        desk, same = Desk(text), Desk(text)
        for each in ahead:
            desk.told(each)
            same.told(each)
        self.assertEqual(desk.told(line), wanted, line)
        for _ in range(len(ahead) + 2):
            for asked in ("state", "look", "parts", "crowd 2"):
                self.assertEqual(desk.told(asked), same.told(asked), line)
            self.assertEqual(desk.told("undo"), same.told("undo"), line)


class Plans(Telling):
    def test_no_plan_at_first(self):
        self.answers(ROW, ("look", "no plan"), ("state", "no plan"), ("undo", "nothing"))

    def test_a_plan(self):
        self.answers(ROW, ("plan 0 1 0 1 5", "done"), ("state", "0 1 0 1 5"), ("look", "good"))
        self.answers(ALONE, ("plan 3", "done"), ("state", "3"), ("look", "good"), ("plan 0", "done"), ("state", "0"))

    def test_a_plan_that_is_not_good(self):
        self.answers(ROW, ("plan 0 0 0 0 0", "done"), ("look", "near a b"), ("state", "0 0 0 0 0"),
                     ("plan 0 1 2 2 0", "done"), ("look", "near c d"), ("bar a 0", "done"), ("look", "list a"))

    def test_what_is_no_plan(self):
        for line in ("plan", "plan ", "plan  ", "plan 0 1 0 1", "plan 0 1 0 1 0 1", "plan 0 1 0 1 6", "plan 0 1 0 1 -1",
                     "plan 0 1 0 1 x", "plan 0 1 0 1 ", "plan  0 1 0 1 0", "plan 0 1  0 1 0", "plan 0 1 0 1 00",
                     "plan 0 1 0 1 01", "plan 0 1 0 1 -0", "plan 0 1 0 1 +1", "plan 0 1 0 1 10000000",
                     "plan a b c d e",
                     "plan 0,1,0,1,0", "plan 0 1 0 1 0.0", "plan 0 1 0 1 0\n", "plan 0 1 0 1 None", "plan look"):
            self.nothing_changes(ROW, (), line, "bad plan")
            self.nothing_changes(ROW, ("fewest", "plan 5 4 3 2 1"), line, "bad plan")

    def test_fewest(self):
        desk = Desk(ROW)
        many, plan, _ = fewest(of_text(ROW))
        tunes = " ".join(map(str, plan))
        self.assertEqual(desk.told("fewest"), f"{many}: {tunes}")
        self.assertEqual(many, 2)
        self.assertEqual(desk.told("state"), tunes)
        self.assertEqual(desk.told("look"), "good")
        self.answers(ALONE, ("fewest", "1: 0"), ("state", "0"), ("bar fewest 0", "done"), ("fewest", "2: 1"))

    def test_fewest_without_a_good_plan(self):
        self.nothing_changes(PAIR, ("plan 0 2", "fix a 1"), "fewest", "none")
        self.nothing_changes(PAIR, ("fix a 1",), "fewest", "none")

    def test_lower(self):
        self.answers(ROW, ("plan 5 4 5 4 3", "done"), ("lower", "0 1 0 1 0"), ("state", "0 1 0 1 0"))
        web = of_text(ROW)
        for plan in ((5, 3, 5, 2, 4), (2, 1, 0, 1, 0)):
            line = " ".join(map(str, plan))
            wanted = " ".join(map(str, lowered(web, plan)))
            self.answers(ROW, ("plan " + line, "done"), ("lower", wanted), ("lower", wanted))

    def test_lower_refused(self):
        self.nothing_changes(ROW, (), "lower", "bad plan")
        self.nothing_changes(ROW, ("bar a 0",), "lower", "bad plan")
        self.nothing_changes(ROW, ("plan 0 0 0 0 0",), "lower", "bad plan")
        self.nothing_changes(ROW, ("plan 0 1 0 1 0", "bar a 0"), "lower", "bad plan")

    def test_swap(self):
        self.answers(ROW, ("plan 0 1 0 2 5", "done"), ("swap a 1", "1 0 1 2 5"), ("swap e 0", "1 0 1 2 0"),
                     ("state", "1 0 1 2 0"))
        self.answers(ROW, ("plan 0 1 0 2 5", "done"), ("swap a 0", "0 1 0 2 5"), ("swap d 5", "0 1 0 5 5"))
        web = of_text(ROW)
        for name, i in zip("abcde", range(5)):
            for tune in range(6):
                wanted = " ".join(map(str, swapped(web, (0, 1, 0, 2, 5), i, tune)))
                self.answers(ROW, ("plan 0 1 0 2 5", "done"), (f"swap {name} {tune}", wanted), ("state", wanted))

    def test_swap_that_is_not_good(self):
        self.nothing_changes(PAIR, ("plan 0 2",), "swap a 1", "not good")
        self.nothing_changes(ROW, ("plan 0 1 0 1 0", "bar c 1"), "swap a 1", "not good")

    def test_swap_refused(self):
        for line in ("swap x 1", "swap a 6", "swap a -1", "swap a 01", "swap a x", "swap a ", "swap  1", "swap  ",
                     "swap 0 1", "swap A 1", "swap 1 a", "swap a 60", "swap a 1000000", "swap a 10000000",
                     "swap near 1"):
            self.nothing_changes(ROW, (), line, "bad plan")
            self.nothing_changes(ROW, ("plan 0 1 0 1 0",), line, "bad tune")
            # Behind that what is wrong with the plan.
            self.nothing_changes(ROW, ("plan 0 0 0 0 0",), line, "bad tune")
        self.nothing_changes(ROW, ("plan 0 0 0 0 0",), "swap a 1", "bad plan")
        self.nothing_changes(ROW, ("plan 0 0 0 0 0",), "swap a 0", "bad plan")
        self.nothing_changes(ROW, (), "swap a 1", "bad plan")

    def test_least(self):
        self.answers(ROW, ("plan 0 1 0 1 0", "done"), ("least 6", "0: 0 1 0 1 0"), ("least 2", "0: 0 1 0 1 0"))
        self.answers(PAIR, ("plan 0 0", "done"), ("bar b 2", "done"), ("least 3", "1: 2 0"), ("least 3", "0: 2 0"))
        web = of_text(ROW)
        for plan, many in (((0, 0, 0, 0, 0), 6), ((5, 4, 5, 4, 5), 2), ((3, 3, 2, 2, 1), 3)):
            count, found, _ = least_changed(web, plan, many)
            tunes = " ".join(map(str, found))
            self.answers(ROW, ("plan " + " ".join(map(str, plan)), "done"), (f"least {many}", f"{count}: {tunes}"),
                         ("state", tunes), ("look", "good"))

    def test_least_refused(self):
        for line in ("least 0", "least 7", "least -1", "least 01", "least x", "least a", "least ", "least 60",
                     "least 10000000", "least +1", "least 1.0"):
            self.nothing_changes(ROW, (), line, "bad plan")
            self.nothing_changes(ROW, ("plan 0 0 0 0 0",), line, "bad tune")
        self.nothing_changes(ROW, (), "least 2", "bad plan")
        self.nothing_changes(ROW, ("plan 0 1 0 1 0",), "least 1", "none")
        self.nothing_changes(PAIR, ("plan 0 2", "fix a 1"), "least 3", "none")

    def test_least_that_would_be_looked_for_too_long(self):
        rows = [f"station s{i} 0 0" for i in range(24)]
        text = "\n".join(["tunes 60", "near 5 1", *rows])
        desk = Desk(text)
        self.assertEqual(desk.told("plan" + " 0" * 24), "done")
        found = desk.told("least 60")
        if found == "too many":
            self.assertEqual(desk.told("state"), " ".join("0" * 24))
            self.assertEqual([desk.told("undo"), desk.told("undo")], ["done", "nothing"])
        else:
            self.assertTrue(found.startswith("23: "))


class Lists(Telling):
    def test_bar(self):
        self.answers(PAIR, ("plan 0 2", "done"), ("bar a 0", "done"), ("look", "list a"), ("state", "0 2"),
                     ("plan 2 0", "done"), ("look", "good"), ("bar a 2", "done"), ("look", "list a"), ("fewest",
                                                                                                       "none"))
        self.answers(PAIR, ("bar b 0", "done"), ("bar b 0", "done"), ("fewest", "3: 0 2"))

    def test_fix(self):
        self.answers(PAIR, ("fix a 2", "done"), ("fewest", "3: 2 0"), ("plan 0 2", "done"), ("look", "list a"))
        self.answers(PAIR, ("fix a 1", "done"), ("plan 1 1", "done"), ("look", "near a b"), ("fewest", "none"))

    def test_fixed_to_what_is_barred(self):
        self.answers(PAIR, ("bar a 2", "done"), ("fix a 2", "done"), ("plan 2 0", "done"), ("look", "list a"),
                     ("plan 0 2", "done"), ("look", "list a"), ("fewest", "none"), ("why", "all: none: a"))
        self.answers(PAIR, ("fix a 2", "done"), ("bar a 2", "done"), ("fewest", "none"), ("why", "all: none: a"))
        self.answers(PAIR, ("fix a 2", "done"), ("fix a 0", "done"), ("fewest", "none"), ("undo", "done"),
                     ("fewest", "3: 2 0"))
        self.answers(PAIR, ("fix a 2", "done"), ("fix a 2", "done"), ("fewest", "3: 2 0"))

    def test_beside_what_the_field_tells(self):
        self.answers(PAIR + "\nfix a 0\nbar b 0", ("fix a 2", "done"), ("fewest", "none"), ("undo", "done"),
                     ("bar b 2", "done"), ("fewest", "none"), ("undo", "done"), ("fewest", "3: 0 2"))

    def test_wrong_names_and_tunes(self):
        for word in ("bar", "fix"):
            for behind in ("x 1", "a 3", "a -1", "a 00", "a -0", "a +1", "a x", "a ", " 1", " ", "1 a", "A 1",
                           "b 10000000",
                           "fix 1", "a 1x", "a\n 1", "a 1\n"):
                for ahead in ((), ("plan 0 2",), ("plan 0 0",)):
                    self.nothing_changes(PAIR, ahead, f"{word} {behind}", "bad tune")


class Lines(Telling):
    def test_bad_lines(self):
        for line in ("", " ", "  ", "Look", "look ", " look", "look  ", "look a", "looks", "state 1", "fewest 2",
                     "fewest ", "lower a", "lower ", "needed ", "needed a", "parts ", "parts |", "why ", "why not",
                     "undo ", " undo", "undo 1", "swap", "swap a", "swap a 1 2", "swap a 1 ", " swap a 1",
                     "swap  a 1", "swap a  1", "swap ", "least", "least 1 2", "least 2 ", "least  2", "bar", "bar a",
                     "bar a 1 1", "bar a  1", "bar  a 1", "bar a 1 ", "bar ", "fix", "fix a", "fix a 1 1", "fix ",
                     "crowd", "crowd ", "crowd 0", "crowd 6", "crowd -1", "crowd 01", "crowd +1", "crowd x",
                     "crowd 1 1", "crowd 1 ", "crowd  1", "crowd a", "crowd 10000000", "planned", "Plan 0 1 0 1 0",
                     " plan 0 1 0 1 0", "look\n", "\nlook", "look\nlook", "tunes 6", "station a", "near", "apart",
                     "a", "0", "#", "look # so", "done",
                     "plan\n"):
            self.nothing_changes(ROW, (), line, "bad line")
            self.nothing_changes(ROW, ("plan 0 1 0 1 0", "bar e 0"), line, "bad line")

    def test_what_is_no_text(self):
        for thing in THINGS:
            if not isinstance(thing, str):
                for ahead in ((), ("plan 0 1 0 1 0",)):
                    desk = Desk(ROW)
                    for line in ahead:
                        desk.told(line)
                    self.refused(BadLine, desk.told, thing)
                    self.assertEqual(desk.told("state"), "0 1 0 1 0" if ahead else "no plan")
                    self.assertEqual(desk.told("undo"), "done" if ahead else "nothing")
                self.refused(BadLine, answered, ROW, [thing])
                self.refused(BadLine, answered, ROW, ["fewest", thing, "look"])

    def test_names_that_are_words_of_lines(self):
        text = "tunes 3\nnear 1 1\nstation plan 0 0\nstation undo 1 0\nstation swap 5 5"
        self.answers(text, ("crowd 1", "plan undo"), ("parts", "plan undo | swap"), ("plan 0 1 0", "done"),
                     ("swap undo 0", "1 0 0"), ("bar swap 0", "done"), ("look", "list swap"), ("undo", "done"))


class Questions(Telling):
    def test_look(self):
        self.answers(ROW + "\napart e b 5", ("plan 0 1 0 1 5", "done"), ("look", "near b e"), ("plan 1 0 1 0 5",
                                                                                               "done"),
                     ("look", "good"), ("bar c 1", "done"), ("look", "list c"))

    def test_crowd(self):
        text = ROW + "\napart a c 3\napart b a 3\napart b c 3\napart d e 5"
        self.answers(text, ("crowd 1", "a b c"), ("crowd 2", "a b c"), ("crowd 3", "a b c"), ("crowd 4", "d e"),
                     ("crowd 5", "d e"))
        self.answers(ROW, ("crowd 1", "a b"), ("crowd 2", "a"), ("crowd 5", "a"))
        self.answers(ALONE, ("crowd 5", "fewest"))

    def test_parts(self):
        self.answers(ROW, ("parts", "a b c d | e"))
        self.answers(RING, ("parts", "a b c d e"))
        self.answers(ALONE, ("parts", "fewest"))
        self.answers(ROW + "\napart b a 0\napart c b 0\napart a e 2", ("parts", "a e | b | c d"))

    def test_needed(self):
        self.answers(ROW, ("needed", "c d"))
        self.answers(RING, ("needed", "a b c d e"))
        self.answers(ALONE, ("needed", "fewest"))
        self.answers(ROW, ("fix e 5", "done"), ("needed", "e"), ("undo", "done"), ("needed", "c d"))
        self.answers(PAIR, ("fix a 1", "done"), ("needed", "none"))

    def test_why(self):
        self.answers(ROW, ("why", "crowd 1: a b"))
        self.answers(PAIR, ("why", "crowd 2: a b"), ("fix a 1", "done"), ("fix b 1", "done"))
        self.answers(ROW, ("fix e 5", "done"), ("why", "none: e"))

    def test_why_by_cases(self):
        found = Desk(RING).told("why")
        count, word = found.split(" ")
        self.assertEqual(word, "cases")

        def cases_in(shown):
            return shown[0] == "cases" and 1 + sum(cases_in(further) for _, further in shown[2])

        shown = fewest(of_text(RING))[2]
        self.assertEqual(shown[0], "cases")
        self.assertEqual(int(count), cases_in(shown))
        # Two near stations of two tunes, to which a third one is no help.
        text = "tunes 9\nnear 9 2\nstation a 0 0\nstation b 0 9" + "".join(
            f"\nbar {name} {tune}" for name in "ab" for tune in range(2, 8))
        self.answers(text, ("why", "1 cases"), ("fewest", "9: 0 8"))

    def test_why_where_the_fewest_are_one(self):
        self.answers(ALONE, ("why", "nothing"), ("bar fewest 0", "done"), ("why", "none: fewest"))
        self.answers("tunes 1\nnear 0 1\nstation a 0 0\nstation b 1 0", ("why", "nothing"))

    def test_why_where_all_cannot(self):
        self.answers("tunes 2\nnear 9 2\nstation a 0 0\nstation b 0 9", ("why", "all: crowd 2: a b"), ("fewest",
                                                                                                       "none"))
        self.answers(PAIR, ("fix a 1", "done"), ("fix b 1", "done"), ("why", "all: 1 cases"), ("bar a 1", "done"),
                     ("why", "all: none: a"))

    def test_too_many_cases(self):
        rows = [f"station s{i} {100 * i} 0" for i in range(15)] + ["station a 0 5000", "station b 0 5010",
                "station c 8 5015", "station d 15 5008", "station e 10 5000"]
        text = "\n".join(["tunes 9", "near 10 1", *rows])
        desk = Desk(text)
        for line in ("why", "fewest", "needed"):
            self.assertEqual(desk.told(line), "too many")
        self.assertEqual(desk.told("state"), "no plan")
        self.assertEqual(desk.told("undo"), "nothing")
        self.assertEqual(desk.told("parts").count(" | "), 15)
        # All tunes have too many, too.
        desk = Desk(text.replace("tunes 9", "tunes 2"))
        self.assertEqual(desk.told("why"), "too many")

    def test_names_as_texts_are_told(self):
        text = "tunes 2\nnear 9 1\nstation z9 0 0\nstation abcdefgh 0 0\nstation b 0 0"
        self.answers(text, ("crowd 1", "z9 abcdefgh b"), ("why", "all: crowd 1: z9 abcdefgh b"), ("needed", "none"))


class Undo(Telling):
    def test_nothing_to_undo(self):
        self.answers(ROW, ("undo", "nothing"), ("look", "no plan"), ("undo", "nothing"))

    def test_behind_each_kind_of_change(self):
        for line in ("plan 5 4 3 2 1", "fewest", "lower", "swap a 2", "swap a 0", "least 6", "bar a 0", "fix a 0",
                     "plan 0 1 0 1 0", "plan 0 0 0 0 0", "bar a 5"):
            desk = Desk(ROW)
            desk.told("plan 0 1 0 1 0")
            first = [desk.told(asked) for asked in ASKED]
            self.assertNotIn(desk.told(line), ("bad line", "bad plan", "bad tune", "none", "not good"))
            self.assertEqual(desk.told("undo"), "done")
            self.assertEqual([desk.told(asked) for asked in ASKED], first)
            self.assertEqual(desk.told("undo"), "done")
            self.assertEqual(desk.told("state"), "no plan")
            self.assertEqual(desk.told("undo"), "nothing")

    def test_also_where_all_is_as_it_was(self):
        # Each of these leaves all as it is, and is taken back by an undo of its own.
        ahead = [("plan 0 1 0 1 0", "done"), ("bar e 5", "done")]
        same = [("plan 0 1 0 1 0", "done"), ("lower", "0 1 0 1 0"), ("swap b 1", "0 1 0 1 0"),
                ("least 6", "0: 0 1 0 1 0"), ("bar e 5", "done")]
        self.answers(ROW, *ahead, *same, *[("undo", "done"), ("state", "0 1 0 1 0")] * len(same), ("undo", "done"),
                     ("undo", "done"), ("state", "no plan"), ("undo", "nothing"))

    def test_again_and_again(self):
        self.answers(
            ROW, ("plan 0 1 0 1 0", "done"), ("bar a 0", "done"), ("look", "list a"), ("plan 1 0 1 0 0", "done"),
            ("undo", "done"), ("state", "0 1 0 1 0"), ("look", "list a"), ("undo", "done"), ("look", "good"),
            ("bar b 1", "done"), ("look", "list b"), ("undo", "done"), ("look", "good"), ("undo", "done"),
            ("look", "no plan"), ("undo", "nothing"), ("undo", "nothing"), ("plan 2 3 4 5 0", "done"), ("undo", "done"),
            ("undo", "nothing"))

    def test_undo_is_no_change_to_be_undone(self):
        self.answers(ROW, ("plan 0 1 0 1 0", "done"), ("plan 1 0 1 0 1", "done"), ("undo", "done"), ("undo", "done"),
                     ("undo", "nothing"), ("state", "no plan"))

    def test_behind_answers_that_change_nothing(self):
        for line in ("", "bar a 9", "swap a", "plan", "crowd 1", "look", "state", "parts", "needed", "why", "least 1"):
            self.answers(ROW, ("plan 0 1 0 1 0", "done"), ("bar e 0", "done"),
                         (line, told_behind(ROW, ("plan 0 1 0 1 0", "bar e 0"), line)), ("undo", "done"),
                         ("look", "good"), ("undo", "done"), ("undo", "nothing"))


class Desks(Telling):
    def test_a_second_desk_of_the_same_text_is_untouched(self):
        one, other = Desk(ROW), Desk(ROW)
        one.told("plan 0 1 0 1 0")
        one.told("bar a 0")
        self.assertEqual([other.told(line) for line in ("state", "undo", "fewest")], ["no plan", "nothing",
                                                                                      "2: 0 1 0 1 0"])
        self.assertEqual([one.told(line) for line in ("look", "state")], ["list a", "0 1 0 1 0"])

    def test_no_texts_of_fields(self):
        for made in (Desk, lambda text: answered(text, []), lambda text: answered(text, ["look"]),
                     lambda text: answered(text, [None])):
            for text, kind in (("", BadText), (None, BadText), (5, BadText), ([ROW], BadText), (ROW + "\n?", BadText),
                               (ROW.replace("tunes 6", "tunes 61"), BadNumber), (ROW + "\napart a x 1", Lacking),
                               (ROW + "\nfix a 1\nfix a 2", Twice), (ROW + "\nfix a 6", BadNumber)):
                self.refused(kind, made, text)
            for thing in THINGS:
                self.refused(BadText, made, thing)

    def test_answered(self):
        lines = ["look", "fewest", "look", "bad", "undo", "undo"]
        before = list(lines)
        found = answered(ROW, lines)
        self.assertEqual(found, ["no plan", "2: 0 1 0 1 0", "good", "bad line", "done", "nothing"])
        self.assertIs(found.__class__, list)
        self.assertEqual(lines, before)
        found.append("mine")
        self.assertEqual(answered(ROW, lines), ["no plan", "2: 0 1 0 1 0", "good", "bad line", "done", "nothing"])
        self.assertEqual(answered(ROW, []), [])

    def test_what_is_no_list_of_lines(self):
        for lines in (None, 5, "look", {"look": 1}):
            self.refused(BadLine, answered, ROW, lines)

    def test_it_stands_as_a_fresh_one_to_which_what_was_not_taken_back_is_told(self):
        chance = random.Random(120)
        nothing = ("bad line", "bad tune", "bad plan", "none", "too many", "nothing", "not good")
        asking = ("look", "state", "crowd", "needed", "parts", "why")
        for text in (ROW, ROW + "\napart a e 3\nfix e 4\nbar b 0", RING):
            for _ in range(15):
                lines = [chance.choice(LINES) for _ in range(chance.randint(1, 25))]
                desk, told = Desk(text), []
                answers = [desk.told(line) for line in lines]
                for line, answer in zip(lines, answers):
                    if line == "undo" and answer == "done":
                        told.pop()
                    elif answer not in nothing and line.split(" ")[0] not in asking:
                        told.append(line)
                fresh = Desk(text)
                for line in told:
                    fresh.told(line)
                for _ in range(len(told) + 1):
                    for asked in ASKED:
                        self.assertEqual(desk.told(asked), fresh.told(asked))
                    self.assertEqual(desk.told("undo"), fresh.told("undo"))
                self.assertEqual(answered(text, lines), answers)

    def test_at_once(self):
        rows = [f"station s{i} {7 * i} 0" for i in range(24)]
        text = "\n".join(["tunes 60", "near 10 3", "near 20 1", *rows])
        start = time.perf_counter()
        found = answered(text, ["fewest", "look", "needed", "why", "parts", "lower", "bar s5 0", "bar s6 3", "least 60",
                                "look", "swap s3 9", "crowd 1", "undo", "undo", "state"])
        self.assertLess(time.perf_counter() - start, 2 * SECONDS)
        self.assertEqual(found[2], " ".join(f"s{i}" for i in needed(of_text(text))))


if __name__ == "__main__":
    unittest.main()
