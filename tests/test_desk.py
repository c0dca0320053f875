"""Promise 20, and 3 as far as it reaches: a desk with webs by names."""

import itertools
import random
import unittest

from fewties.desk import Desk
from fewties.errors import NoJoin, NoName, NoNumber, NoPlace, NoRow, NoText, NoTie, TieError
from fewties.farthest import farthest_two, middles
from fewties.hubs import hubs_for
from fewties.putin import best_tie, with_ties
from fewties.texts import show_web
from fewties.webs import how_far
from samples import far_table, full, line, made_webs, no_texts, other_things, ring, small_webs, star, ties_left

LINE_OF_FOUR = "4 0-1 1-2 2-3"


def desk_with(webs):
    desk = Desk()
    for name, text in webs.items():
        desk.say("web " + name + " " + text)
    return desk


def stands(desk):
    """All that stands on the desk."""
    return {name: desk.say("show " + name) for name in desk.names()}


def answer(call, *handed):
    try:
        return call(*handed)
    except TieError as refusal:
        return type(refusal)


def with_blanks(*numbers):
    return " ".join(str(number) for number in numbers)


class TestRows(unittest.TestCase):
    def test_web_and_show(self):
        desk = Desk()
        for text in ("1", "60", LINE_OF_FOUR, show_web(ring(20)), show_web(full(12))):
            self.assertEqual(desk.say("web a " + text), "ok")
            self.assertEqual(desk.say("show a"), text)

    def test_web_in_the_place_of_what_stood(self):
        desk = desk_with({"a": LINE_OF_FOUR, "b": "2"})
        self.assertEqual(desk.say("web a 3 0-2"), "ok")
        self.assertEqual(stands(desk), {"a": "3 0-2", "b": "2"})
        self.assertEqual(desk.names(), ["a", "b"])

    def test_web_with_no_text(self):
        desk = desk_with({"a": LINE_OF_FOUR})
        for row in ("web a ", "web b "):
            with self.assertRaises(NoText):
                desk.say(row)
        # The blank behind the name is part of the row, though the text may be nothing.
        for row in ("web a", "web b", "web", "web ", "web  "):
            with self.assertRaises(NoRow):
                desk.say(row)
        self.assertEqual(stands(desk), {"a": LINE_OF_FOUR})

    def test_tie(self):
        desk = desk_with({"a": "12 0-1"})
        self.assertEqual(desk.say("tie a 2 11"), "ok")
        self.assertEqual(desk.say("tie a 10 2"), "ok")
        self.assertEqual(desk.say("tie a 9 10"), "ok")
        self.assertEqual(desk.say("show a"), "12 0-1 2-10 2-11 9-10")

    def test_tie_with_either_place_first(self):
        for a, b in itertools.permutations(range(12), 2):
            desk = desk_with({"a": "12"})
            self.assertEqual(desk.say(f"tie a {a} {b}"), "ok")
            self.assertEqual(desk.say("show a"), f"12 {min(a, b)}-{max(a, b)}")

    def test_drop(self):
        desk = desk_with({"a": "1", "b": "2", "c": "3"})
        self.assertEqual(desk.say("drop b"), "ok")
        self.assertEqual(stands(desk), {"a": "1", "c": "3"})
        for row in ("drop b", "show b", "far b 0 0", "tie b 0 1"):
            with self.assertRaises(NoName):
                desk.say(row)
        self.assertEqual(desk.say("web b 5"), "ok")
        self.assertEqual(desk.say("show b"), "5")

    def test_far(self):
        desk = desk_with({"a": LINE_OF_FOUR, "b": "4 0-1 2-3", "c": show_web(line(60))})
        self.assertEqual(desk.say("far a 0 3"), "3")
        self.assertEqual(desk.say("far a 3 0"), "3")
        self.assertEqual(desk.say("far a 2 2"), "0")
        self.assertEqual(desk.say("far b 0 1"), "1")
        self.assertEqual(desk.say("far b 0 2"), "none")
        self.assertEqual(desk.say("far b 3 3"), "0")
        self.assertEqual(desk.say("far c 59 0"), "59")

    def test_farthest(self):
        desk = desk_with({"a": LINE_OF_FOUR, "b": "1", "c": show_web(star(60)), "d": show_web(line(60))})
        self.assertEqual(desk.say("farthest a"), "3 0 3")
        self.assertEqual(desk.say("farthest b"), "0 0 0")
        self.assertEqual(desk.say("farthest c"), "2 1 2")
        self.assertEqual(desk.say("farthest d"), "59 0 59")

    def test_middles(self):
        desk = desk_with({"a": LINE_OF_FOUR, "b": "1", "c": show_web(star(60)), "d": show_web(ring(12))})
        self.assertEqual(desk.say("middles a"), "2 1 2")
        self.assertEqual(desk.say("middles b"), "0 0")
        self.assertEqual(desk.say("middles c"), "1 0")
        self.assertEqual(desk.say("middles d"), "6 0 1 2 3 4 5 6 7 8 9 10 11")

    def test_best(self):
        desk = desk_with({"a": LINE_OF_FOUR, "b": show_web(line(6)), "c": show_web(line(24))})
        self.assertEqual(desk.say("best a"), "2 0-2")
        self.assertEqual(desk.say("best b"), "3 0-4")
        self.assertEqual(desk.say("best c"), "12 0-22")

    def test_best_of_a_web_with_all_ties(self):
        desk = desk_with({"a": "1", "b": "2 0-1", "c": show_web(full(7))})
        for name in "abc":
            self.assertEqual(desk.say("best " + name), "none")

    def test_hubs(self):
        desk = desk_with({"a": show_web(line(9)), "b": "1", "c": show_web(line(60))})
        self.assertEqual(desk.say("hubs a 0"), "8 0")
        self.assertEqual(desk.say("hubs a 1"), "4 0 8")
        self.assertEqual(desk.say("hubs a 4"), "1 0 8 4 2 6")
        self.assertEqual(desk.say("hubs b 20"), "0 0")
        self.assertEqual(desk.say("hubs c 20"), with_blanks(2, *hubs_for(line(60), 20)[1]))

    def test_asking_changes_nothing(self):
        desk = desk_with({"a": LINE_OF_FOUR})
        for row in ("far a 0 3", "farthest a", "middles a", "best a", "hubs a 2", "show a"):
            told = desk.say(row)
            self.assertIs(type(told), str)
            self.assertEqual(desk.say(row), told)
            self.assertEqual(stands(desk), {"a": LINE_OF_FOUR})

    def test_ok_is_a_text(self):
        desk = Desk()
        for row in ("web a 2", "tie a 1 0", "drop a"):
            told = desk.say(row)
            self.assertEqual((told, type(told)), ("ok", str))


class TestAgreesWithTheFunctions(unittest.TestCase):
    def test_many_webs(self):
        for web in small_webs()[::5] + made_webs():
            desk = desk_with({"a": show_web(web)})
            last = web[0] - 1
            far = how_far(web, 0, last)
            self.assertEqual(desk.say(f"far a 0 {last}"), "none" if far is None else str(far))
            if far_table(web)[0].count(None):
                continue
            self.assertEqual(desk.say("farthest a"), with_blanks(*farthest_two(web)))
            wide, places = middles(web)
            self.assertEqual(desk.say("middles a"), with_blanks(wide, *places))
            for k in (0, 3, 20):
                wide, places = hubs_for(web, k)
                self.assertEqual(desk.say(f"hubs a {k}"), with_blanks(wide, *places))
            if web[0] <= 12:
                best = best_tie(web)
                right = "none" if best is None else f"{best[0]} {best[1][0]}-{best[1][1]}"
                self.assertEqual(desk.say("best a"), right)

    def test_ties_put_in_one_by_one(self):
        chance = random.Random(5)
        web = (11, [])
        desk = desk_with({"a": "11"})
        for step in range(25):
            tie = chance.choice(ties_left(web))
            web = with_ties(web, [tie])
            desk.say(f"tie a {tie[step % 2]} {tie[1 - step % 2]}")
            self.assertEqual(desk.say("show a"), show_web(web))
            self.assertEqual(answer(desk.say, "farthest a"), self.farthest_text(web))

    def farthest_text(self, web):
        told = answer(farthest_two, web)
        return with_blanks(*told) if isinstance(told, tuple) else told


class TestNames(unittest.TestCase):
    def test_in_order_of_letters(self):
        desk = Desk()
        self.assertEqual(desk.names(), [])
        for name in ("b", "zz", "ab", "a", "abcdefgh", "z", "aa"):
            desk.say("web " + name + " 1")
        self.assertEqual(desk.names(), ["a", "aa", "ab", "abcdefgh", "b", "z", "zz"])
        desk.say("drop ab")
        self.assertEqual(desk.names(), ["a", "aa", "abcdefgh", "b", "z", "zz"])

    def test_what_the_asker_changes_changes_nothing(self):
        desk = desk_with({"b": "2", "a": "1"})
        desk.names().clear()
        desk.names().append("c")
        self.assertEqual(desk.names(), ["a", "b"])
        told = desk.names()
        desk.say("drop a")
        self.assertEqual(told, ["a", "b"])
        self.assertIs(type(told), list)
        self.assertIsNot(desk.names(), desk.names())

    def test_names_may_be_as_the_words_of_rows(self):
        desk = Desk()
        for name in ("web", "tie", "drop", "far", "farthest", "middles", "best", "hubs", "show", "none", "ok"):
            desk.say("web " + name + " 2 0-1")
            self.assertEqual(desk.say("far " + name + " 0 1"), "1")
        self.assertEqual(len(desk.names()), 11)

    def test_two_desks_are_apart(self):
        one, two = desk_with({"a": "2"}), desk_with({"a": "2", "b": "3"})
        one.say("tie a 0 1")
        two.say("drop b")
        one.say("web c 4")
        self.assertEqual((stands(one), stands(two)), ({"a": "2 0-1", "c": "4"}, {"a": "2"}))
        self.assertEqual(Desk().names(), [])


def no_rows():
    """Things that are no rows; by the names a and b webs stand, by c none."""
    rows = ["", " ", "  ", "a", "ok", "none", "\n", "web", "tie", "drop", "far", "farthest", "middles", "best", "hubs"]
    rows += ["show", "names", "names a", "put a 0 1", "webs a 1", "ties a 0 1", "FAR a 0 1", "Show a", "fart a", "a show"]
    rows += ["show a a", "show a b", "show a 1", "drop a b", "drop a 0", "farthest a 0", "farthest a 0 3", "middles a 1"]
    rows += ["best a 1", "hubs a", "hubs a 1 2", "far a", "far a 0", "far a 0 1 2", "tie a", "tie a 0", "tie a 0 2 3"]
    rows += ["tie a 0-2", "tie a 0,2", "far a b 0 1", "show", "show ", "drop ", "best ", "far  0 1", "web  4", "web  a 4"]
    for name in ("A", "aB", "a1", "1", "12", "a-b", "a_b", "abcdefghi", "abcdefghijkl", "a.", "a,b", "a\n", "\ta", "~"):
        rows += [row.replace("NAME", name) for row in RIGHT_ROWS]
    for row in RIGHT_ROWS:
        right = row.replace("NAME", "a")
        rows += [" " + right, "\n" + right, "\t" + right, right.replace(" ", "  ", 1), right.replace(" ", "\t", 1)]
        rows += [right.upper(), right.replace(" ", ""), right.replace(" ", "\n", 1), right.replace(" ", "-", 1)]
        if not right.startswith("web"):
            rows += [right + " ", right + "  ", right + "\n", right + "\t", right + " x", right + " ok", right + "\r\n"]
            rows += [right.replace(" ", "  "), right.replace("a ", "a  ") if "a " in right else right + " 0 0 0"]
    for number in ("", "00", "01", "07", "010", "100", "123", "000", "+1", "-1", "1.", "1.0", "0x", "1_", "a", "x1", "1\n"):
        rows += [f"tie a {number} 3", f"tie a 0 {number}", f"far a {number} 3", f"far a 0 {number}", f"hubs a {number}"]
    rows += ["far a \u0661 0", "hubs a \u00b2", "show \u00e4", "show \u03b1"]
    return rows + [thing for thing in other_things() if not isinstance(thing, str)] + [0, 1, 10 ** 25, ["show a"]]


RIGHT_ROWS = [
    "web NAME 4", "web NAME 4 0-1", "tie NAME 0 2", "drop NAME", "far NAME 0 1", "farthest NAME", "middles NAME",
    "best NAME", "hubs NAME 2", "show NAME",
]


class TestNoRow(unittest.TestCase):
    def test_no_rows(self):
        desk = desk_with({"a": LINE_OF_FOUR, "b": "2"})
        for row in no_rows():
            with self.assertRaises(NoRow, msg=row):
                desk.say(row)
        self.assertEqual(stands(desk), {"a": LINE_OF_FOUR, "b": "2"})

    def test_ahead_of_no_name(self):
        for row in no_rows():
            with self.assertRaises(NoRow, msg=row):
                Desk().say(row)

    def test_right_rows_are_rows(self):
        for name in ("a", "z", "abcdefgh", "hijklmno", "pqrstuvw", "xyz"):
            for row in RIGHT_ROWS:
                desk = desk_with({name: LINE_OF_FOUR})
                self.assertIs(type(desk.say(row.replace("NAME", name))), str)

    def test_numbers_of_one_or_two_figures(self):
        desk = desk_with({"a": show_web(line(60))})
        for number in range(60):
            self.assertEqual(desk.say(f"far a {number} 0"), str(number))
            self.assertEqual(desk.say(f"far a 0 {number}"), str(number))
        for number in range(60, 100):
            with self.assertRaises(NoPlace):
                desk.say(f"far a {number} 0")
        for number in range(100, 130):
            with self.assertRaises(NoRow):
                desk.say(f"far a {number} 0")


class TestOtherRefusals(unittest.TestCase):
    def refuses(self, webs, row, kind):
        desk = desk_with(webs)
        with self.assertRaises(kind, msg=row):
            desk.say(row)
        self.assertEqual(stands(desk), webs, row)

    def test_no_name(self):
        for row in RIGHT_ROWS[2:] + ["tie NAME 0 0", "tie NAME 98 99", "far NAME 98 99", "hubs NAME 99"]:
            for name in ("b", "aa", "abcdefgh"):
                self.refuses({"a": "3 0-1"}, row.replace("NAME", name), NoName)
                self.refuses({}, row.replace("NAME", name), NoName)

    def test_no_text(self):
        for text in [text for text in no_texts() if isinstance(text, str)]:
            self.refuses({"a": "3 0-1"}, "web a " + text, NoText)
            self.refuses({"a": "3 0-1"}, "web b " + text, NoText)

    def test_no_row_ahead_of_no_text(self):
        for text in ("", "x", "4 1-0", "61"):
            for name in ("A", "", "abcdefghi", "a1"):
                self.refuses({"a": "3 0-1"}, "web " + name + " " + text, NoRow)

    def test_no_tie(self):
        for pair in ("0 1", "1 0", "2 2", "0 0", "0 4", "4 0", "3 4", "99 0", "98 99", "1 2", "2 1"):
            self.refuses({"a": LINE_OF_FOUR}, "tie a " + pair, NoTie)
        self.refuses({"a": "1"}, "tie a 0 0", NoTie)
        self.refuses({"a": "1"}, "tie a 0 1", NoTie)
        self.refuses({"a": "3 0-1 0-2 1-2"}, "tie a 2 0", NoTie)

    def test_no_place(self):
        for pair in ("0 4", "4 0", "4 4", "99 0", "10 1"):
            self.refuses({"a": LINE_OF_FOUR}, "far a " + pair, NoPlace)
        self.refuses({"a": "3"}, "far a 0 3", NoPlace)

    def test_no_join(self):
        for text in ("2", "4 0-1 2-3", "60"):
            for row in ("farthest a", "middles a", "best a", "hubs a 0", "hubs a 20"):
                self.refuses({"a": text}, row, NoJoin)

    def test_no_join_ahead_of_no_number(self):
        self.refuses({"a": "2"}, "hubs a 21", NoJoin)
        self.refuses({"a": "2"}, "hubs a 99", NoJoin)

    def test_no_number(self):
        for k in (21, 22, 60, 99):
            self.refuses({"a": "1", "b": LINE_OF_FOUR}, f"hubs a {k}", NoNumber)
            self.refuses({"a": "1", "b": LINE_OF_FOUR}, f"hubs b {k}", NoNumber)

    def test_what_is_refused_leaves_the_desk_going(self):
        desk = desk_with({"a": "3 0-1"})
        self.assertEqual(answer(desk.say, "farthest a"), NoJoin)
        self.assertEqual(answer(desk.say, "tie a 1 0"), NoTie)
        self.assertEqual(desk.say("tie a 2 0"), "ok")
        self.assertEqual(desk.say("farthest a"), "2 1 2")


if __name__ == "__main__":
    unittest.main()
