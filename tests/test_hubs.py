"""Promises 13 and 14: hubs, and ties put from the first one."""

import itertools
import unittest

from fewties.errors import NoJoin, NoNumber
from fewties.hubs import hub_ties, hubs_for
from samples import far_table, full, joined_webs, line, many_webs, most_steps, no_numbers, parted_webs, put, ring, star

WEBS = [web for at, web in enumerate(joined_webs(many_webs())) if web[0] != 5 or at % 4 == 0]
SOME_KS = (0, 1, 2, 3, 7, 19, 20)


def near_hubs(table, hubs):
    """How far each place is from the nearest hub."""
    return [min(table[place][hub] for hub in hubs) for place in range(len(table))]


def hubs_by_the_words(web, k):
    table = far_table(web)
    hubs = [0]
    for again in range(k):
        others = [place for place in range(web[0]) if place not in hubs]
        if others:
            near = near_hubs(table, hubs)
            hubs.append(min(others, key=lambda place: (-near[place], place)))
    return (max(near_hubs(table, hubs)), hubs)


class TestHubsFor(unittest.TestCase):
    def test_many_webs(self):
        for web in WEBS:
            for k in SOME_KS:
                self.assertEqual(hubs_for(web, k), hubs_by_the_words(web, k), (web, k))

    def test_known_ones(self):
        self.assertEqual(hubs_for((1, []), 0), (0, [0]))
        self.assertEqual(hubs_for(line(9), 0), (8, [0]))
        self.assertEqual(hubs_for(line(9), 1), (4, [0, 8]))
        self.assertEqual(hubs_for(line(9), 2), (2, [0, 8, 4]))
        self.assertEqual(hubs_for(line(9), 3), (2, [0, 8, 4, 2]))
        self.assertEqual(hubs_for(line(9), 4), (1, [0, 8, 4, 2, 6]))
        self.assertEqual(hubs_for(line(60), 20)[1][:4], [0, 59, 29, 44])
        self.assertEqual(len(hubs_for(line(60), 20)[1]), 21)

    def test_the_first_of_several_farthest_places(self):
        self.assertEqual(hubs_for(star(6), 3), (1, [0, 1, 2, 3]))
        self.assertEqual(hubs_for(ring(7), 1), (2, [0, 3]))
        self.assertEqual(hubs_for(ring(8), 3), (1, [0, 4, 2, 6]))
        self.assertEqual(hubs_for((5, [(0, 4), (1, 4), (2, 4), (3, 4)]), 2), (2, [0, 1, 2]))

    def test_more_hubs_asked_than_there_are_places(self):
        self.assertEqual(hubs_for((1, []), 20), (0, [0]))
        self.assertEqual(hubs_for(line(2), 1), (0, [0, 1]))
        self.assertEqual(hubs_for(line(2), 20), (0, [0, 1]))
        self.assertEqual(hubs_for(full(5), 4), (0, [0, 1, 2, 3, 4]))
        self.assertEqual(hubs_for(full(5), 5), (0, [0, 1, 2, 3, 4]))
        self.assertEqual(hubs_for(line(20), 20)[0], 0)
        self.assertEqual(sorted(hubs_for(line(20), 20)[1]), list(range(20)))
        self.assertEqual(sorted(hubs_for(line(21), 20)[1]), list(range(21)))
        self.assertEqual(hubs_for(line(22), 20)[0], 1)

    def test_hubs_are_as_far_from_one_another_as_they_see_wide(self):
        for web in WEBS:
            table = far_table(web)
            for k in SOME_KS:
                wide, hubs = hubs_for(web, k)
                for a, b in itertools.combinations(hubs, 2):
                    self.assertGreaterEqual(table[a][b], wide, (web, k))

    def test_kinds(self):
        for k in (0, 2):
            told = hubs_for(line(5), k)
            self.assertEqual((type(told), type(told[0]), type(told[1])), (tuple, int, list))


class TestHubTies(unittest.TestCase):
    def test_many_webs(self):
        for web in WEBS:
            for k in SOME_KS:
                hubs = hubs_by_the_words(web, k)[1]
                ties = sorted((0, hub) for hub in hubs if hub != 0 and (0, hub) not in web[1])
                self.assertEqual(hub_ties(web, k), (ties, most_steps(put(web, ties))), (web, k))

    def test_known_ones(self):
        self.assertEqual(hub_ties((1, []), 0), ([], 0))
        self.assertEqual(hub_ties((1, []), 20), ([], 0))
        self.assertEqual(hub_ties(line(9), 0), ([], 8))
        self.assertEqual(hub_ties(line(9), 1), ([(0, 8)], 4))

    def test_the_ties_rise(self):
        self.assertEqual(hub_ties(line(9), 2)[0], [(0, 4), (0, 8)])
        self.assertEqual(hub_ties(line(9), 4)[0], [(0, 2), (0, 4), (0, 6), (0, 8)])

    def test_ties_that_are_there_are_not_put(self):
        self.assertEqual(hub_ties(star(6), 3), ([], 2))
        self.assertEqual(hub_ties(full(6), 20), ([], 1))
        self.assertEqual(hub_ties(line(4), 20), ([(0, 2), (0, 3)], 2))
        self.assertEqual(hub_ties(ring(5), 20), ([(0, 2), (0, 3)], 2))

    def test_at_most_twice_the_wide_and_two(self):
        for web in WEBS:
            for k in SOME_KS:
                self.assertLessEqual(hub_ties(web, k)[1], 2 * hubs_for(web, k)[0] + 2, (web, k))

    def test_kinds(self):
        for k in (0, 2):
            told = hub_ties(line(5), k)
            self.assertEqual((type(told), type(told[0]), type(told[1])), (tuple, list, int))
        self.assertEqual([type(tie) for tie in hub_ties(line(5), 2)[0]], [tuple, tuple])


class TestRefusals(unittest.TestCase):
    def test_no_number(self):
        for web in ((1, []), line(5), line(60)):
            for k in no_numbers(0, 20):
                with self.assertRaises(NoNumber, msg=k):
                    hubs_for(web, k)
                with self.assertRaises(NoNumber, msg=k):
                    hub_ties(web, k)

    def test_no_join(self):
        for web in parted_webs(many_webs()):
            with self.assertRaises(NoJoin):
                hubs_for(web, 2)
            with self.assertRaises(NoJoin):
                hub_ties(web, 2)

    def test_no_join_ahead_of_no_number(self):
        for k in no_numbers(0, 20):
            with self.assertRaises(NoJoin, msg=k):
                hubs_for((3, [(0, 1)]), k)
            with self.assertRaises(NoJoin, msg=k):
                hub_ties((3, [(0, 1)]), k)


if __name__ == "__main__":
    unittest.main()
