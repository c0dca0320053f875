"""Promises 4 and 5: what a web is, how far places are, joined webs and shortest ways."""

import unittest

from fewties.errors import NoPlace
from fewties.webs import all_far, how_far, is_joined, is_web, short_way
from samples import all_ways, far_table, full, line, made_webs, many_webs, no_places, other_things, plain_webs, ring
from samples import small_webs, star, table_joined


class TestIsWeb(unittest.TestCase):
    def is_one(self, thing):
        self.assertIs(is_web(thing), True, thing)

    def is_none(self, thing):
        self.assertIs(is_web(thing), False, thing)

    def test_webs(self):
        for web in many_webs():
            self.is_one(web)
        self.is_one((4, [(0, 1), (0, 3), (1, 2)]))

    def test_how_many_places(self):
        for n in (1, 2, 59, 60):
            self.is_one((n, []))
        for n in (0, -1, -60, 61, 62, 10 ** 25, -10 ** 25):
            self.is_none((n, []))

    def test_n_of_other_kinds(self):
        for n in other_things():
            self.is_none((n, []))

    def test_truths_are_no_places(self):
        self.is_one((3, [(0, 1)]))
        for tie in ((0, True), (False, 1), (False, True), (True, 2)):
            self.is_none((3, [tie]))

    def test_ties_in_other_orders(self):
        self.is_one((4, [(0, 1), (1, 2), (2, 3)]))
        self.is_none((4, [(1, 2), (0, 1), (2, 3)]))
        self.is_none((4, [(0, 1), (2, 3), (1, 2)]))
        self.is_none((4, [(0, 2), (0, 1)]))
        self.is_none((4, [(0, 3), (1, 3), (0, 2)]))

    def test_ties_twice(self):
        self.is_none((4, [(0, 1), (0, 1)]))
        self.is_none((4, [(0, 1), (1, 2), (1, 2)]))
        self.is_none((4, [(0, 1), (1, 2), (0, 1)]))

    def test_ties_turned_about(self):
        self.is_none((4, [(1, 0)]))
        self.is_none((4, [(0, 1), (2, 1)]))
        self.is_none((4, [(0, 1), (1, 0)]))

    def test_ties_of_other_than_two_places(self):
        for tie in ((0, 0), (1, 1), (3, 3), (), (0,), (0, 1, 2)):
            self.is_none((4, [tie]))

    def test_ties_of_other_kinds(self):
        self.is_none((4, [[0, 1]]))
        self.is_none((4, [(0, 1), [1, 2]]))
        self.is_none((4, [{0, 1}]))
        self.is_none((4, ["01"]))
        for thing in other_things():
            if thing == (0, 1):
                continue
            self.is_none((4, [thing]))
            self.is_none((4, [(0, 1), thing]))
            self.is_none((4, [thing, (0, 1)]))
            self.is_none((4, [(0, thing)]))
            self.is_none((4, [(thing, 3)]))

    def test_places_beyond(self):
        self.is_none((4, [(0, 4)]))
        self.is_none((4, [(3, 4)]))
        self.is_none((4, [(4, 5)]))
        self.is_none((4, [(-1, 0)]))
        self.is_none((4, [(-2, -1)]))
        self.is_none((1, [(0, 1)]))
        self.is_none((60, [(0, 60)]))
        self.is_one((60, [(0, 59)]))

    def test_lists_of_ties_of_other_kinds(self):
        for thing in other_things():
            if thing != []:
                self.is_none((4, thing))
        self.is_none((4, ((0, 1),)))
        self.is_none((4, {(0, 1)}))
        self.is_none((4, {(0, 1): True}))

    def test_webs_of_other_shapes(self):
        self.is_none([4, [(0, 1)]])
        self.is_none((4,))
        self.is_none((4, [], []))
        self.is_none(([], 4))
        self.is_none(((4, []),))
        for thing in other_things() + [0, 1, 4, 60, -1, 10 ** 25]:
            self.is_none(thing)


class TestFar(unittest.TestCase):
    def test_all_twos_of_many_webs(self):
        for web in small_webs():
            table = far_table(web)
            for a in range(web[0]):
                self.assertEqual(all_far(web, a), table[a], (web, a))
                self.assertEqual([how_far(web, a, b) for b in range(web[0])], table[a], (web, a))

    def test_greater_webs(self):
        for web in made_webs() + plain_webs():
            table = far_table(web)
            last = web[0] - 1
            for a in range(web[0]):
                self.assertEqual(all_far(web, a), table[a], (web, a))
                self.assertEqual(how_far(web, a, last), table[a][last], (web, a))
                self.assertEqual(how_far(web, last, a), table[a][last], (web, a))

    def test_known_ones(self):
        self.assertEqual(all_far(line(5), 1), [1, 0, 1, 2, 3])
        self.assertEqual(how_far(line(60), 0, 59), 59)
        self.assertEqual(how_far(ring(60), 0, 59), 1)
        self.assertEqual(how_far(ring(60), 10, 40), 30)
        self.assertEqual(how_far(star(60), 1, 59), 2)
        self.assertEqual(all_far(full(4), 2), [1, 1, 0, 1])

    def test_a_place_and_itself(self):
        for web in ((1, []), (3, []), line(4), ring(60)):
            for a in range(web[0]):
                self.assertEqual(how_far(web, a, a), 0)
                self.assertIs(type(how_far(web, a, a)), int)
                self.assertEqual(all_far(web, a)[a], 0)

    def test_places_that_no_ties_lead_to(self):
        web = (5, [(0, 1), (2, 4)])
        self.assertIsNone(how_far(web, 0, 2))
        self.assertIsNone(how_far(web, 4, 1))
        self.assertIsNone(how_far(web, 3, 0))
        self.assertEqual(all_far(web, 2), [None, None, 0, None, 1])
        self.assertEqual(all_far(web, 3), [None, None, None, 0, None])

    def test_kinds(self):
        told = all_far((3, [(0, 1)]), 0)
        self.assertIs(type(told), list)
        self.assertEqual([type(far) for far in told], [int, int, type(None)])

    def test_no_place(self):
        for web in ((1, []), (4, [(0, 1), (1, 2)]), line(60)):
            for thing in no_places(web[0]):
                with self.assertRaises(NoPlace):
                    all_far(web, thing)
                with self.assertRaises(NoPlace):
                    how_far(web, thing, 0)
                with self.assertRaises(NoPlace):
                    how_far(web, 0, thing)
                with self.assertRaises(NoPlace):
                    how_far(web, thing, thing)


class TestJoined(unittest.TestCase):
    def test_many_webs(self):
        for web in many_webs():
            self.assertIs(is_joined(web), table_joined(far_table(web)), web)

    def test_known_ones(self):
        self.assertIs(is_joined((1, [])), True)
        self.assertIs(is_joined((2, [])), False)
        self.assertIs(is_joined((2, [(0, 1)])), True)
        self.assertIs(is_joined((3, [(1, 2)])), False)
        self.assertIs(is_joined((3, [(0, 1)])), False)
        self.assertIs(is_joined((4, [(0, 1), (2, 3)])), False)
        self.assertIs(is_joined((4, [(0, 3), (1, 2), (2, 3)])), True)
        self.assertIs(is_joined((60, line(59)[1])), False)
        self.assertIs(is_joined(line(60)), True)


class TestShortWay(unittest.TestCase):
    def test_first_of_the_shortest_of_all_ways(self):
        for web in small_webs():
            for a in range(web[0]):
                for b in range(web[0]):
                    ways = all_ways(web, a, b)
                    least = min([len(way) for way in ways], default=0)
                    first = min([way for way in ways if len(way) == least], default=None)
                    self.assertEqual(short_way(web, a, b), first, (web, a, b))

    def test_greater_webs(self):
        for web in made_webs() + plain_webs():
            table = far_table(web)
            for a in range(0, web[0], 3):
                for b in range(0, web[0], 5):
                    self.is_shortest(web, table, a, b)

    def is_shortest(self, web, table, a, b):
        way = short_way(web, a, b)
        if table[a][b] is None:
            self.assertIsNone(way)
            return
        self.assertIs(type(way), list)
        self.assertEqual((way[0], way[-1], len(way)), (a, b, table[a][b] + 1))
        for here, after in zip(way, way[1:]):
            nearer = [c for c in range(web[0]) if table[here][c] == 1 and table[c][b] == table[here][b] - 1]
            self.assertEqual(after, nearer[0], (web, way))

    def test_the_first_of_several(self):
        self.assertEqual(short_way((4, [(0, 1), (0, 2), (1, 3), (2, 3)]), 0, 3), [0, 1, 3])
        self.assertEqual(short_way((4, [(0, 1), (0, 2), (1, 3), (2, 3)]), 3, 0), [3, 1, 0])
        self.assertEqual(short_way((4, [(0, 1), (0, 2), (1, 3), (2, 3)]), 2, 1), [2, 0, 1])
        self.assertEqual(short_way(ring(6), 3, 0), [3, 2, 1, 0])
        self.assertEqual(short_way(ring(6), 0, 3), [0, 1, 2, 3])
        self.assertEqual(short_way(ring(6), 2, 5), [2, 1, 0, 5])

    def test_the_first_place_counts_before_later_ones(self):
        # From 5 to 0 by 1 and 4 or by 2 and 3: the lists part at the second place already.
        web = (6, [(0, 3), (0, 4), (1, 4), (1, 5), (2, 3), (2, 5)])
        self.assertEqual(short_way(web, 5, 0), [5, 1, 4, 0])
        self.assertEqual(short_way(web, 0, 5), [0, 3, 2, 5])

    def test_to_itself(self):
        self.assertEqual(short_way((1, []), 0, 0), [0])
        self.assertEqual(short_way((3, []), 2, 2), [2])
        self.assertEqual(short_way(ring(5), 4, 4), [4])

    def test_no_way(self):
        self.assertIsNone(short_way((2, []), 0, 1))
        self.assertIsNone(short_way((5, [(0, 1), (2, 4)]), 1, 4))
        self.assertIsNone(short_way((5, [(0, 1), (2, 4)]), 3, 0))

    def test_no_place(self):
        for web in ((1, []), (4, [(0, 1), (2, 3)]), ring(60)):
            for thing in no_places(web[0]):
                with self.assertRaises(NoPlace):
                    short_way(web, thing, 0)
                with self.assertRaises(NoPlace):
                    short_way(web, 0, thing)
                with self.assertRaises(NoPlace):
                    short_way(web, thing, thing)


if __name__ == "__main__":
    unittest.main()
