"""Promise 18, and 3 as far as it reaches: a web that grows."""

import copy
import random
import unittest

from fewties.errors import NoJoin, NoNumber, NoPlace, NoTie
from fewties.farthest import farthest_two
from fewties.growing import Grower
from fewties.webs import how_far, is_web
from samples import far_table, full, line, made_webs, most_steps, no_places, no_ties, other_things, put, ring
from samples import small_webs, star, ties_left


def with_place(web, a):
    return (web[0] + 1, sorted(web[1] + [(a, web[0])]))


class TestGrowing(unittest.TestCase):
    def tells_as_anew(self, grower, web):
        self.assertEqual(grower.web(), web)
        table = far_table(web)
        n = web[0]
        for a in range(0, n, 1 + n // 12):
            self.assertEqual([grower.far(a, b) for b in range(n)], table[a], web)
        if most_steps(web) is None:
            with self.assertRaises(NoJoin):
                grower.farthest()
        else:
            most = max(max(row) for row in table)
            twos = [(a, b) for a in range(n) for b in range(a + 1, n)] or [(0, 0)]
            first = min((a, b) for a, b in twos if table[a][b] == most)
            self.assertEqual(grower.farthest(), (most,) + first, web)

    def test_begun_with_many_webs(self):
        for web in small_webs()[::3] + made_webs() + [(1, []), (2, []), (60, []), line(60), ring(60), star(60)]:
            self.tells_as_anew(Grower(web), web)

    def test_each_step_from_every_small_web(self):
        for web in [web for web in small_webs() if web[0] < 5]:
            for a in range(web[0]):
                grower = Grower(web)
                grown = with_place(web, a)
                self.assertEqual(grower.put_place(a), (most_steps(web), most_steps(grown)), (web, a))
                self.tells_as_anew(grower, grown)
            for tie in ties_left(web):
                grower = Grower(web)
                grown = put(web, [tie])
                self.assertEqual(grower.put_tie(*tie), (most_steps(web), most_steps(grown)), (web, tie))
                self.tells_as_anew(grower, grown)

    def test_many_steps(self):
        chance = random.Random(3)
        for web in ((1, []), (4, []), (9, []), line(7), ring(8), (12, [(0, 5), (3, 4)])):
            grower = Grower(web)
            for step in range(40):
                left = ties_left(web)
                if left and chance.randrange(3):
                    tie = chance.choice(left)
                    grown = put(web, [tie])
                    told = grower.put_tie(*tie)
                else:
                    a = chance.randrange(web[0])
                    grown = with_place(web, a)
                    told = grower.put_place(a)
                self.assertEqual(told, (most_steps(web), most_steps(grown)), (web, grown))
                web = grown
                self.tells_as_anew(grower, web)
                self.assertIs(is_web(grower.web()), True)

    def test_known_steps(self):
        grower = Grower((1, []))
        self.assertEqual(grower.put_place(0), (0, 1))
        self.assertEqual(grower.put_place(1), (1, 2))
        self.assertEqual(grower.put_place(2), (2, 3))
        self.assertEqual(grower.web(), line(4))
        self.assertEqual(grower.farthest(), (3, 0, 3))
        self.assertEqual(grower.put_tie(0, 3), (3, 2))
        self.assertEqual(grower.put_place(0), (2, 3))
        self.assertEqual(grower.web(), (5, [(0, 1), (0, 3), (0, 4), (1, 2), (2, 3)]))
        self.assertEqual(grower.far(4, 2), 3)
        self.assertEqual(grower.far(2, 2), 0)

    def test_none_as_long_as_it_is_not_joined(self):
        grower = Grower((4, [(0, 1)]))
        self.assertEqual(grower.put_tie(2, 3), (None, None))
        self.assertEqual(grower.put_place(3), (None, None))
        self.assertIsNone(grower.far(0, 4))
        with self.assertRaises(NoJoin):
            grower.farthest()
        self.assertEqual(grower.put_tie(1, 2), (None, 4))
        self.assertEqual(grower.far(0, 4), 4)
        self.assertEqual(grower.farthest(), (4, 0, 4))
        self.assertEqual(grower.put_tie(0, 4), (4, 2))

    def test_a_tie_or_a_place_that_changes_nothing_of_the_farthest(self):
        self.assertEqual(Grower(ring(8)).put_tie(0, 4), (4, 4))
        self.assertEqual(Grower(star(5)).put_place(0), (2, 2))

    def test_all_ties_come_in(self):
        web = (9, [])
        grower = Grower(web)
        for tie in ties_left(web)[::-1]:
            grower.put_tie(*tie)
        self.assertEqual(grower.web(), full(9))
        self.assertEqual(grower.farthest(), (1, 0, 1))

    def test_agrees_with_the_functions(self):
        for web in [web for web in made_webs() if web[0] < 60]:
            grower = Grower(web)
            grower.put_place(web[0] - 1)
            told = grower.web()
            last = told[0] - 1
            self.assertEqual(grower.far(0, last), how_far(told, 0, last))
            if most_steps(told) is not None:
                self.assertEqual(grower.farthest(), farthest_two(told))

    def test_kinds(self):
        grower = Grower((2, []))
        self.assertEqual([type(part) for part in grower.put_place(0)], [type(None), type(None)])
        told = grower.put_tie(0, 1)
        self.assertEqual((type(told), [type(part) for part in told]), (tuple, [type(None), int]))
        self.assertEqual([type(part) for part in grower.put_place(0)], [int, int])
        web = grower.web()
        self.assertEqual((type(web), type(web[0]), type(web[1]), type(web[1][0])), (tuple, int, list, tuple))
        self.assertEqual((type(grower.farthest()), type(grower.far(0, 1))), (tuple, int))


class TestSixtyPlaces(unittest.TestCase):
    def test_up_to_sixty_and_no_more(self):
        grower = Grower(line(58))
        self.assertEqual(grower.put_place(57), (57, 58))
        self.assertEqual(grower.put_place(58), (58, 59))
        self.assertEqual(grower.web(), line(60))
        for a in (0, 30, 59):
            with self.assertRaises(NoNumber):
                grower.put_place(a)
            self.assertEqual(grower.web(), line(60))
        self.assertEqual(grower.put_tie(0, 59), (59, 30))
        self.assertEqual(grower.web(), ring(60))

    def test_begun_with_sixty(self):
        for web in ((60, []), line(60), star(60)):
            grower = Grower(web)
            with self.assertRaises(NoNumber):
                grower.put_place(0)
            self.assertEqual(grower.web(), web)

    def test_no_place_ahead_of_no_number(self):
        for web in ((60, []), line(60)):
            grower = Grower(web)
            for thing in no_places(60):
                with self.assertRaises(NoPlace, msg=thing):
                    grower.put_place(thing)
            self.assertEqual(grower.web(), web)


class TestRefusals(unittest.TestCase):
    def test_no_place(self):
        for web in ((1, []), (4, [(0, 1), (2, 3)]), line(5)):
            grower = Grower(web)
            for thing in no_places(web[0]):
                with self.assertRaises(NoPlace, msg=thing):
                    grower.put_place(thing)
                with self.assertRaises(NoPlace, msg=thing):
                    grower.far(thing, 0)
                with self.assertRaises(NoPlace, msg=thing):
                    grower.far(0, thing)
                with self.assertRaises(NoPlace, msg=thing):
                    grower.far(thing, thing)
                self.assertEqual(grower.web(), web)

    def test_no_tie(self):
        for web in ((4, [(0, 1)]), line(5), full(5), line(60)):
            grower = Grower(web)
            twos = [tie for tie in no_ties(web[0]) if isinstance(tie, tuple) and len(tie) == 2]
            twos += [(tie, 1) for tie in other_things()] + [(2, tie) for tie in other_things()]
            for a, b in twos + web[1][:9]:
                with self.assertRaises(NoTie, msg=(a, b)):
                    grower.put_tie(a, b)
            self.assertEqual(grower.web(), web)

    def test_no_tie_of_known_ones(self):
        grower = Grower(line(4))
        for a, b in ((0, 1), (1, 0), (2, 0), (3, 0), (1, 1), (0, 0), (0, 4), (4, 5), (-1, 1), (-2, -1), (False, 2)):
            with self.assertRaises(NoTie, msg=(a, b)):
                grower.put_tie(a, b)
        for a, b in ((0, True), (1, "3"), ("1", "3"), (None, None), ((0, 2), (1, 3)), ([0], [2]), (0, None)):
            with self.assertRaises(NoTie, msg=(a, b)):
                grower.put_tie(a, b)
        self.assertEqual(grower.put_tie(0, 2), (3, 2))
        with self.assertRaises(NoTie):
            grower.put_tie(0, 2)

    def test_one_place_has_no_ties(self):
        grower = Grower((1, []))
        for a, b in ((0, 0), (0, 1), (1, 0)):
            with self.assertRaises(NoTie):
                grower.put_tie(a, b)

    def test_a_place_that_came_is_one_then(self):
        grower = Grower(line(2))
        with self.assertRaises(NoPlace):
            grower.far(0, 2)
        with self.assertRaises(NoTie):
            grower.put_tie(0, 2)
        grower.put_place(1)
        self.assertEqual(grower.far(0, 2), 2)
        self.assertEqual(grower.put_tie(0, 2), (2, 1))

    def test_no_join(self):
        for web in ((2, []), (60, []), (4, [(0, 1), (2, 3)]), (4, [(0, 1), (0, 2), (1, 2)])):
            with self.assertRaises(NoJoin):
                Grower(web).farthest()


class TestItsOwn(unittest.TestCase):
    def test_what_was_handed_in_stays(self):
        web = line(4)
        grower = Grower(web)
        grower.put_place(2)
        grower.put_tie(0, 3)
        self.assertEqual(web, line(4))

    def test_what_was_handed_in_and_changes_behind_changes_nothing(self):
        web = line(4)
        grower = Grower(web)
        web[1].append((0, 3))
        self.assertEqual(grower.web(), line(4))
        web[1].clear()
        self.assertEqual(grower.farthest(), (3, 0, 3))
        self.assertEqual(grower.far(0, 3), 3)
        self.assertEqual(grower.put_tie(0, 3), (3, 2))

    def test_a_told_web_that_the_asker_changes_changes_nothing(self):
        for steps in range(3):
            grower = Grower((5, [(0, 1), (1, 2)]))
            if steps > 0:
                grower.put_tie(2, 3)
            if steps > 1:
                grower.put_place(3)
            told = grower.web()
            kept = copy.deepcopy(told)
            told[1].clear()
            self.assertEqual(grower.web(), kept)
            grower.web()[1].append("spoilt")
            self.assertEqual(grower.web(), kept)
            self.assertEqual(grower.far(0, 2), 2)

    def test_no_two_told_webs_are_one(self):
        grower = Grower(line(3))
        self.assertIsNot(grower.web()[1], grower.web()[1])

    def test_a_web_told_earlier_stays(self):
        grower = Grower(line(3))
        told = grower.web()
        grower.put_tie(0, 2)
        grower.put_place(0)
        self.assertEqual(told, line(3))

    def test_two_begun_with_one_web_are_apart(self):
        web = line(5)
        one, two = Grower(web), Grower(web)
        one.put_tie(0, 4)
        self.assertEqual((one.web(), two.web()), (ring(5), line(5)))
        two.put_place(0)
        self.assertEqual((one.far(0, 4), two.far(0, 4)), (1, 4))
        self.assertEqual((one.web()[0], two.web()[0]), (5, 6))
        three = Grower(one.web())
        three.put_tie(0, 2)
        self.assertEqual(one.web(), ring(5))

    def test_the_same_asked_again_is_answered_the_same(self):
        grower = Grower(ring(6))
        self.assertEqual(grower.farthest(), grower.farthest())
        self.assertEqual(grower.far(1, 4), grower.far(1, 4))
        self.assertEqual(grower.web(), grower.web())


if __name__ == "__main__":
    unittest.main()
