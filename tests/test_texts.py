"""Promise 19: webs written and read back."""

import itertools
import unittest

from fewties.errors import NoText
from fewties.texts import read_web, show_web
from fewties.webs import is_web
from samples import full, line, many_webs, no_texts, ring, star

WRITINGS = {
    "1": (1, []),
    "2": (2, []),
    "2 0-1": (2, [(0, 1)]),
    "4 0-1 1-2": (4, [(0, 1), (1, 2)]),
    "4 2-3": (4, [(2, 3)]),
    "10": (10, []),
    "11 0-9 0-10 9-10": (11, [(0, 9), (0, 10), (9, 10)]),
    "60": (60, []),
    "60 0-59 58-59": (60, [(0, 59), (58, 59)]),
}


class TestTexts(unittest.TestCase):
    def test_known_ones(self):
        for text, web in WRITINGS.items():
            self.assertEqual(show_web(web), text)
            self.assertEqual(read_web(text), web)

    def test_what_is_read_back_is_the_same_web(self):
        for web in many_webs():
            text = show_web(web)
            self.assertEqual(read_web(text), web)
            self.assertEqual(show_web(read_web(text)), text)

    def test_every_number_of_places(self):
        for n in range(1, 61):
            self.assertEqual(read_web(str(n)), (n, []))

    def test_written_by_the_words(self):
        for n, ties in [line(60), ring(59), star(12), full(8)]:
            self.assertEqual(show_web((n, ties)), str(n) + "".join(" %d-%d" % tie for tie in ties))

    def test_kinds(self):
        self.assertIs(type(show_web(line(3))), str)
        told = read_web("3 0-1")
        self.assertEqual((type(told), type(told[0]), type(told[1]), type(told[1][0])), (tuple, int, list, tuple))
        self.assertEqual([type(place) for place in told[1][0]], [int, int])


class TestNoText(unittest.TestCase):
    def test_no_texts(self):
        for thing in no_texts():
            with self.assertRaises(NoText, msg=thing):
                read_web(thing)

    def test_every_short_text(self):
        # Of the texts of these signs, those are webs that some web is written as.
        written = {show_web(web) for web in many_webs()} | {str(n) for n in range(1, 61)}
        for length in range(1, 6):
            for signs in itertools.product("012- \n", repeat=length):
                text = "".join(signs)
                if text in written:
                    self.assertEqual(show_web(read_web(text)), text)
                else:
                    with self.assertRaises(NoText, msg=text):
                        read_web(text)

    def test_one_sign_put_in_left_out_or_exchanged(self):
        for text in ("4 0-1 1-2", "12 0-10 1-2 10-11", "60 5-59"):
            for at in range(len(text) + 1):
                for sign in ["", " ", "-", "+", "0", "1", "3", "9", "a", "\n", "\t", "~", ",", "/", ":"]:
                    for rest in (text[at:], text[at + 1:]):
                        self.is_written_or_refused(text[:at] + sign + rest)

    def is_written_or_refused(self, text):
        try:
            web = read_web(text)
        except NoText:
            self.assertNotIn(text, WRITINGS)
            return
        self.assertIs(is_web(web), True, text)
        self.assertEqual(show_web(web), text)

    def test_ties_in_every_order(self):
        ties = ["0-1", "0-10", "0-2", "1-2"]
        for order in itertools.permutations(ties):
            text = "12 " + " ".join(order)
            if order == ("0-1", "0-2", "0-10", "1-2"):
                self.assertEqual(read_web(text)[1], [(0, 1), (0, 2), (0, 10), (1, 2)])
            else:
                with self.assertRaises(NoText, msg=text):
                    read_web(text)

    def test_figures_of_other_writings(self):
        # The program takes the figures from 0 to 9 only, though Python would read others.
        for text in ("\u0664", "\uff14 0-1", "4 0-\u0661", "\u00b2"):
            with self.assertRaises(NoText):
                read_web(text)


class TestItsOwn(unittest.TestCase):
    def test_what_is_handed_in_stays(self):
        web = (4, [(0, 1), (1, 2)])
        show_web(web)
        self.assertEqual(web, (4, [(0, 1), (1, 2)]))

    def test_what_the_asker_changes_changes_nothing_told_later(self):
        told = read_web("4 0-1 1-2")
        told[1].clear()
        self.assertEqual(read_web("4 0-1 1-2"), (4, [(0, 1), (1, 2)]))
        self.assertIsNot(read_web("4")[1], read_web("4")[1])


if __name__ == "__main__":
    unittest.main()
