"""Promises 11, 12, and 3 as far as these reach: papers on how far a web must stay."""

import itertools
import unittest

from fewties.errors import NoJoin, NoNumber
from fewties.whatever import best_stay, stay_shows
from samples import all_webs, far_table, full, joined_webs, line, made_webs, many_webs, most_steps, no_numbers
from samples import other_things, parted_webs, put, ring, small_webs, star, ties_left


def shows_by_the_words(table, k, paper):
    """Promise 11 word by word, of a tuple of a whole number and a list of whole numbers."""
    r, places = paper
    if r < 0 or len(places) < 2 * k + 2:
        return False
    if any(place < 0 or place >= len(table) for place in places):
        return False
    if any(a >= b for a, b in zip(places, places[1:])):
        return False
    return all(table[a][b] >= 2 * r + 1 for a, b in itertools.combinations(places, 2))


def best_by_trying(web, k):
    """Of all lists and all r, the greatest r, then the first list; also lists longer than they need be."""
    table = far_table(web)
    papers = []
    for many in range(2 * k + 2, web[0] + 1):
        for places in itertools.combinations(range(web[0]), many):
            papers += [(-r, list(places)) for r in range(web[0]) if shows_by_the_words(table, k, (r, list(places)))]
    if not papers:
        return None
    r, places = min(papers)
    return (-r, places)


def webs_up_to_twelve():
    webs = [web for web in made_webs() if web[0] <= 12]
    webs += [line(12), ring(12), star(12), full(12), line(11), ring(9)]
    return joined_webs(webs)


class TestStayShows(unittest.TestCase):
    def test_every_paper_of_small_webs(self):
        let_by = 0
        for web in joined_webs(all_webs(1) + all_webs(2) + all_webs(3)) + [line(4), ring(4), star(4)]:
            table = far_table(web)
            for many in range(5):
                for places in itertools.product(range(-1, web[0] + 1), repeat=many):
                    for k, r in itertools.product((0, 1, 2), (-1, 0, 1, 2)):
                        paper = (r, list(places))
                        right = shows_by_the_words(table, k, paper)
                        self.assertIs(stay_shows(web, k, paper), right, (web, k, paper))
                        let_by += right
        self.assertGreater(let_by, 0)

    def test_every_rising_list_of_greater_webs(self):
        for web in (line(8), ring(9), (9, line(8)[1] + [(7, 8)])):
            table = far_table(web)
            for many in range(web[0] + 1):
                for places in itertools.combinations(range(web[0]), many):
                    for k, r in itertools.product(range(4), range(5)):
                        paper = (r, list(places))
                        self.assertIs(stay_shows(web, k, paper), shows_by_the_words(table, k, paper), (k, paper))

    def test_just_so_far_and_one_less(self):
        for r in range(29):
            self.assertIs(stay_shows(line(60), 0, (r, [0, 2 * r + 1])), True)
            self.assertIs(stay_shows(line(60), 0, (r, [1, 2 * r + 1])), False)
            self.assertIs(stay_shows(line(60), 0, (r, [7, 59])), 52 >= 2 * r + 1)
        self.assertIs(stay_shows(line(60), 1, (9, [0, 19, 38, 57])), True)
        self.assertIs(stay_shows(line(60), 1, (9, [0, 19, 38, 56])), False)
        self.assertIs(stay_shows(line(60), 1, (9, [1, 19, 38, 57])), False)
        self.assertIs(stay_shows(line(60), 1, (9, [0, 19, 37, 57])), False)
        # The first and the last of the list count as well: on a ring they are near.
        self.assertIs(stay_shows(ring(12), 1, (1, [0, 3, 6, 9])), True)
        self.assertIs(stay_shows(ring(11), 1, (1, [0, 3, 6, 9])), False)

    def test_too_few_places(self):
        for k in range(1, 6):
            places = [3 * at for at in range(2 * k + 2)]
            self.assertIs(stay_shows(line(60), k, (1, places)), True)
            self.assertIs(stay_shows(line(60), k, (1, places[:-1])), False)
            self.assertIs(stay_shows(line(60), k, (1, places[1:])), False)
            self.assertIs(stay_shows(line(60), k - 1, (1, places)), True)
            self.assertIs(stay_shows(line(60), k + 1, (1, places)), False)
        self.assertIs(stay_shows(line(60), 0, (0, [])), False)
        self.assertIs(stay_shows(line(60), 0, (0, [5])), False)
        self.assertIs(stay_shows((1, []), 0, (0, [0])), False)
        self.assertIs(stay_shows((1, []), 0, (0, [])), False)
        self.assertIs(stay_shows(line(60), 10 ** 25, (0, list(range(60)))), False)
        self.assertIs(stay_shows(line(60), 29, (0, list(range(60)))), True)
        self.assertIs(stay_shows(line(60), 30, (0, list(range(60)))), False)

    def test_more_places_than_need_be(self):
        self.assertIs(stay_shows(line(60), 0, (1, list(range(0, 60, 3)))), True)
        self.assertIs(stay_shows(line(60), 0, (1, list(range(0, 58, 3)) + [59])), False)

    def test_r_below_nought(self):
        for r in (-1, -2, -10 ** 25):
            self.assertIs(stay_shows(line(9), 0, (r, [0, 8])), False)
            self.assertIs(stay_shows(line(9), 1, (r, [0, 3, 5, 8])), False)

    def test_fewer_ties_than_none_show_nothing(self):
        for paper in ((0, []), (9, []), (0, [0, 8]), (3, [0, 8])):
            self.assertIs(stay_shows(line(9), -1, paper), False)

    def test_great_r(self):
        for r in (4, 5, 10 ** 25):
            self.assertIs(stay_shows(line(9), 0, (r, [0, 8])), False)
        self.assertIs(stay_shows(line(9), 0, (3, [0, 8])), True)

    def test_places_that_do_not_rise(self):
        for places in ([8, 0], [0, 0], [0, 8, 8], [0, 0, 8], [0, 8, 4], [4, 0, 8], [8, 4, 0]):
            self.assertIs(stay_shows(line(9), 0, (0, places)), False, places)
            self.assertIs(stay_shows(line(9), 0, (1, places)), False, places)

    def test_places_beyond(self):
        for places in ([0, 9], [-1, 8], [-9, 8], [-1, 0, 8], [0, 4, 9], [0, 4, 10 ** 25], [-10 ** 25, 4]):
            self.assertIs(stay_shows(line(9), 0, (0, places)), False, places)

    def test_truths_are_no_numbers(self):
        self.assertIs(stay_shows(line(9), 0, (False, [0, 8])), False)
        self.assertIs(stay_shows(line(9), 0, (1, [False, 8])), False)
        self.assertIs(stay_shows(line(9), 0, (1, [True, 8])), False)

    def test_what_is_let_by_holds_whatever_is_put_in(self):
        let_by = 0
        for web in joined_webs(all_webs(4)) + [line(6), ring(6), star(6), line(7)]:
            least = least_with(web, 2)
            for many in range(2, 7):
                for places in itertools.combinations(range(web[0]), many):
                    for k, r in itertools.product((0, 1, 2), range(4)):
                        if stay_shows(web, k, (r, list(places))):
                            let_by += 1
                            self.assertGreaterEqual(least[k], 2 * r + 1, (web, k, r, places))
        self.assertGreater(let_by, 100)

    def test_no_join(self):
        for web in parted_webs(many_webs()):
            for paper in ((0, [0, 1]), (0, []), (-1, [5, 5]), (10 ** 25, [-1])):
                with self.assertRaises(NoJoin):
                    stay_shows(web, 0, paper)
                with self.assertRaises(NoJoin):
                    stay_shows(web, 10 ** 25, paper)

    def test_no_join_ahead_of_what_is_no_paper(self):
        for paper in other_things():
            with self.assertRaises(NoJoin):
                stay_shows((3, [(0, 1)]), 1, paper)


def least_with(web, most):
    """The least farthest that at most so many ties come to, a list for 0 ties on."""
    least = []
    for k in range(most + 1):
        fars = [most_steps(put(web, ties)) for ties in itertools.combinations(ties_left(web), k)]
        least.append(min(least[-1:] + fars))
    return least


class TestBestStay(unittest.TestCase):
    def test_small_webs(self):
        for web in joined_webs(small_webs()):
            for k in range(6):
                self.assertEqual(best_stay(web, k), best_by_trying(web, k), (web, k))

    def test_webs_of_up_to_twelve_places(self):
        for web in webs_up_to_twelve():
            for k in (0, 1, 2, 5):
                self.assertEqual(best_stay(web, k), best_by_trying(web, k), (web, k))

    def test_known_ones(self):
        self.assertEqual(best_stay(line(12), 0), (5, [0, 11]))
        self.assertEqual(best_stay(line(11), 0), (4, [0, 9]))
        self.assertEqual(best_stay(line(12), 1), (1, [0, 3, 6, 9]))
        self.assertEqual(best_stay(line(12), 2), (0, [0, 1, 2, 3, 4, 5]))
        self.assertEqual(best_stay(line(12), 5), (0, list(range(12))))
        self.assertEqual(best_stay(ring(12), 1), (1, [0, 3, 6, 9]))
        self.assertEqual(best_stay(ring(11), 1), (0, [0, 1, 2, 3]))
        self.assertEqual(best_stay((6, [(0, 4), (1, 4), (2, 5), (3, 5), (4, 5)]), 0), (1, [0, 2]))

    def test_none_where_there_are_too_few_places(self):
        self.assertIsNone(best_stay((1, []), 0))
        for k in range(6):
            for n in range(1, 13):
                for web in (line(n), star(n), full(n)):
                    self.assertEqual(best_stay(web, k) is None, n < 2 * k + 2, (n, k))

    def test_is_let_by(self):
        for web in webs_up_to_twelve():
            for k in range(6):
                told = best_stay(web, k)
                if told is not None:
                    self.assertIs(stay_shows(web, k, told), True)
                    self.assertIs(stay_shows(web, k, (told[0] + 1, told[1])), False)

    def test_it_stays_so_far_whatever_is_put_in(self):
        for web in joined_webs(all_webs(4)) + [line(8), ring(8), star(7), line(9)]:
            least = least_with(web, 2)
            for k in (0, 1, 2):
                told = best_stay(web, k)
                if told is not None:
                    self.assertGreaterEqual(least[k], 2 * told[0] + 1, (web, k))

    def test_kinds(self):
        told = best_stay(line(5), 1)
        self.assertEqual((type(told), type(told[0]), type(told[1])), (tuple, int, list))

    def test_no_number_for_other_k(self):
        for web in ((1, []), line(5), line(12), line(13)):
            for k in no_numbers(0, 5):
                with self.assertRaises(NoNumber, msg=k):
                    best_stay(web, k)

    def test_no_number_for_more_than_twelve_places(self):
        for web in (line(13), ring(14), star(20), full(60)):
            for k in range(6):
                with self.assertRaises(NoNumber):
                    best_stay(web, k)

    def test_no_join_ahead_of_no_number(self):
        for web in [(2, []), (12, [(0, 1)]), (13, line(12)[1]), (60, [])]:
            for k in [0, 1, 5] + no_numbers(0, 5):
                with self.assertRaises(NoJoin, msg=k):
                    best_stay(web, k)


if __name__ == "__main__":
    unittest.main()
