"""Promises 9, 10, and 3 as far as these reach: ties put in, the best tie and the best few."""

import itertools
import unittest

from fewties.errors import NoJoin, NoNumber, NoTie
from fewties.putin import best_few, best_tie, with_ties
from fewties.webs import is_web
from samples import all_webs, far_table, full, joined_webs, line, made_webs, many_webs, most_steps, no_numbers, no_ties
from samples import other_things, parted_webs, put, ring, small_webs, star, ties_left


def best_by_trying(web):
    tried = [(most_steps(put(web, [tie])), tie) for tie in ties_left(web)]
    return min(tried) if tried else None


def few_by_trying(web, k):
    """Of all lists of at most k ties, in any order, the best by the words of promise 10."""
    tried = []
    for many in range(k + 1):
        for ties in itertools.permutations(ties_left(web), many):
            tried.append((most_steps(put(web, ties)), many, list(ties)))
    far, many, ties = min(tried)
    return (far, ties)


def few_by_rising_lists(web, k):
    """The same with rising lists only: turned about, a list brings the same and comes later."""
    tried = []
    for many in range(k + 1):
        for ties in itertools.combinations(ties_left(web), many):
            tried.append((most_steps(put(web, ties)), many, list(ties)))
    far, many, ties = min(tried)
    return (far, ties)


def webs_up_to(most):
    return [web for web in made_webs() if web[0] <= most]


class TestWithTies(unittest.TestCase):
    def refused(self, web, ties):
        with self.assertRaises(NoTie, msg=(web, ties)):
            with_ties(web, ties)

    def test_no_tie(self):
        for web in many_webs():
            self.assertEqual(with_ties(web, []), web)

    def test_every_list_of_up_to_three_ties_in_any_order(self):
        for web in all_webs(1) + all_webs(2) + all_webs(3) + all_webs(4):
            for many in range(4):
                for ties in itertools.permutations(ties_left(web), many):
                    told = with_ties(web, list(ties))
                    self.assertEqual(told, (web[0], sorted(web[1] + list(ties))))
                    self.assertTrue(is_web(told))

    def test_greater_webs(self):
        for web in made_webs():
            left = ties_left(web)[::7][::-1]
            told = with_ties(web, left)
            self.assertTrue(is_web(told))
            self.assertEqual(set(told[1]), set(web[1]) | set(left))
            self.assertEqual(len(told[1]), len(web[1]) + len(left))

    def test_known_ones(self):
        self.assertEqual(with_ties((4, [(0, 1), (2, 3)]), [(1, 3), (1, 2)]), (4, [(0, 1), (1, 2), (1, 3), (2, 3)]))
        self.assertEqual(with_ties((4, [(1, 2)]), [(0, 3)]), (4, [(0, 3), (1, 2)]))
        self.assertEqual(with_ties((1, []), []), (1, []))
        self.assertEqual(with_ties((60, []), [(58, 59), (0, 59)]), (60, [(0, 59), (58, 59)]))

    def test_webs_that_are_not_joined_are_taken(self):
        self.assertEqual(with_ties((3, []), [(0, 2)]), (3, [(0, 2)]))

    def test_kinds(self):
        for ties in ([], [(0, 2)]):
            told = with_ties(line(3), ties)
            self.assertEqual((type(told), type(told[1])), (tuple, list))
            self.assertEqual({type(tie) for tie in told[1]}, {tuple})

    def test_there_already(self):
        for web in (line(4), ring(5), star(6), full(4), (4, [(2, 3)])):
            for tie in web[1]:
                self.refused(web, [tie])
                for other in ties_left(web):
                    self.refused(web, [other, tie])
                    self.refused(web, [tie, other])

    def test_twice_in_the_list(self):
        self.refused(line(4), [(0, 2), (0, 2)])
        self.refused(line(4), [(0, 2), (0, 3), (0, 2)])
        self.refused(line(4), [(0, 3), (0, 2), (0, 3)])
        self.refused((2, []), [(0, 1), (0, 1)])

    def test_things_that_are_no_tie(self):
        for web in (line(4), (5, []), line(60)):
            for thing in no_ties(web[0]):
                self.refused(web, [thing])
                self.refused(web, [(0, 2), thing])
                self.refused(web, [thing, (0, 2)])
                self.refused(web, [thing, thing])

    def test_of_one_place(self):
        for tie in ((0, 0), (0, 1), (-1, 0)):
            self.refused((1, []), [tie])

    def test_things_that_are_no_list(self):
        for thing in other_things() + [0, 1, -1, 10 ** 25, ((0, 2),), ((0, 2), (0, 3)), {(0, 2)}, {(0, 2): True}]:
            if not isinstance(thing, list):
                self.refused(line(4), thing)
                self.refused((1, []), thing)
        self.refused(line(4), (0, 2))


class TestBestTie(unittest.TestCase):
    def test_all_small_webs(self):
        for web in joined_webs(small_webs()):
            self.assertEqual(best_tie(web), best_by_trying(web), web)

    def test_made_webs_of_up_to_twenty_places(self):
        webs = joined_webs(webs_up_to(20))
        self.assertGreater(len(webs), 20)
        for web in webs:
            self.assertEqual(best_tie(web), best_by_trying(web), web)

    def test_webs_of_twenty_two_places(self):
        tree = (22, sorted([((b - 1) // 2, b) for b in range(1, 22)]))
        comb = (22, sorted([(a, a + 1) for a in range(10)] + [(a, a + 11) for a in range(11)]))
        for web in (tree, comb, star(22), full(22), put(ring(22), [(3, 9), (11, 20)])):
            self.assertEqual(best_tie(web), best_by_trying(web), web)

    def test_lines_and_rings_of_up_to_twenty_four_places(self):
        for n in range(1, 25):
            self.assertEqual(best_tie(line(n)), best_by_trying(line(n)), n)
            if n >= 3:
                self.assertEqual(best_tie(ring(n)), best_by_trying(ring(n)), n)

    def test_known_ones(self):
        self.assertEqual(best_tie(line(3)), (1, (0, 2)))
        self.assertEqual(best_tie(line(4)), (2, (0, 2)))
        self.assertEqual(best_tie(line(24)), (12, (0, 22)))
        self.assertEqual(best_tie(ring(24)), (12, (0, 2)))
        self.assertEqual(best_tie(star(5)), (2, (1, 2)))

    def test_none_where_all_are_there(self):
        for n in (1, 2, 3, 4, 10, 22):
            self.assertIsNone(best_tie(full(n)))

    def test_the_one_that_is_left(self):
        for tie in full(5)[1]:
            web = (5, [other for other in full(5)[1] if other != tie])
            self.assertEqual(best_tie(web), (1, tie))

    def test_no_tie_comes_to_less(self):
        for web in joined_webs(webs_up_to(12)):
            far, tie = best_tie(web)
            self.assertEqual(max(max(row) for row in far_table(put(web, [tie]))), far)
            for other in ties_left(web):
                self.assertGreaterEqual(max(max(row) for row in far_table(put(web, [other]))), far)

    def test_kinds(self):
        told = best_tie(line(5))
        self.assertEqual((type(told), type(told[0]), type(told[1])), (tuple, int, tuple))

    def test_no_join(self):
        for web in parted_webs(many_webs()):
            with self.assertRaises(NoJoin):
                best_tie(web)


class TestBestFew(unittest.TestCase):
    def test_all_lists_in_any_order(self):
        for web in joined_webs(all_webs(1) + all_webs(2) + all_webs(3) + all_webs(4)) + [line(5), ring(5)]:
            for k in (1, 2, 3):
                self.assertEqual(best_few(web, k), few_by_trying(web, k), (web, k))

    def test_webs_of_five_places(self):
        for web in joined_webs(all_webs(5))[::3]:
            for k in (1, 2, 3):
                self.assertEqual(best_few(web, k), few_by_rising_lists(web, k), (web, k))

    def test_webs_of_up_to_eight_places(self):
        webs = [make(n) for n in (6, 7, 8) for make in (line, ring, star, full)]
        webs += [(8, [(0, 7), (1, 7), (2, 3), (2, 6), (4, 5), (4, 6), (6, 7)])]
        webs += joined_webs(webs_up_to(8))
        for web in webs:
            for k in (1, 2, 3):
                self.assertEqual(best_few(web, k), few_by_rising_lists(web, k), (web, k))

    def test_no_tie_where_none_brings_it_down(self):
        self.assertEqual(best_few((1, []), 3), (0, []))
        self.assertEqual(best_few(line(2), 1), (1, []))
        for k in (1, 2, 3):
            self.assertEqual(best_few(full(8), k), (1, []))
            self.assertEqual(best_few(star(8), k), (2, []))
        self.assertEqual(best_few(ring(8), 1), (4, []))

    def test_shorter_lists_first(self):
        # One tie comes to 1 already, so that no more are told.
        for k in (1, 2, 3):
            self.assertEqual(best_few(line(3), k), (1, [(0, 2)]))
        self.assertEqual(best_few(ring(4), 1), (2, []))
        self.assertEqual(best_few(ring(4), 2), (1, [(0, 2), (1, 3)]))
        self.assertEqual(best_few(ring(4), 3), (1, [(0, 2), (1, 3)]))
        self.assertEqual(best_few(line(4), 1), (2, [(0, 2)]))
        self.assertEqual(best_few(line(4), 2), (2, [(0, 2)]))
        self.assertEqual(best_few(line(4), 3), (1, [(0, 2), (0, 3), (1, 3)]))

    def test_kinds(self):
        for web, k in ((line(5), 2), (full(3), 1)):
            told = best_few(web, k)
            self.assertEqual((type(told), type(told[0]), type(told[1])), (tuple, int, list))
        self.assertEqual([type(tie) for tie in best_few(line(8), 1)[1]], [tuple])

    def test_no_number_for_other_k(self):
        for web in ((1, []), line(5), line(8), line(9)):
            for k in no_numbers(1, 3):
                with self.assertRaises(NoNumber, msg=k):
                    best_few(web, k)

    def test_no_number_for_more_than_eight_places(self):
        for web in (line(9), ring(10), full(12), star(60)):
            for k in (1, 2, 3):
                with self.assertRaises(NoNumber):
                    best_few(web, k)

    def test_no_join_ahead_of_no_number(self):
        for web in [(2, []), (8, [(0, 1)]), (9, line(8)[1]), (60, [])]:
            for k in [1, 2, 3] + no_numbers(1, 3):
                with self.assertRaises(NoJoin, msg=k):
                    best_few(web, k)


if __name__ == "__main__":
    unittest.main()
