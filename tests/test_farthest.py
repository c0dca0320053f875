"""Promises 6, 7, 8, and 3 as far as these reach: the farthest two, the middles, and papers."""

import itertools
import unittest

from fewties.errors import NoJoin
from fewties.farthest import far_paper, far_shows, farthest_two, middles
from samples import all_webs, far_table, full, joined_webs, line, made_webs, many_webs, other_things, parted_webs
from samples import plain_webs, ring, small_webs, star


def shows_by_the_words(web, d, paper):
    """Promise 8 word by word, of a list of lists of whole numbers."""
    n, ties = web
    if len(paper) != n or any(len(row) != n for row in paper):
        return False
    for a in range(n):
        for b in range(n):
            if a == b:
                if paper[a][b] != 0:
                    return False
                continue
            if paper[a][b] > d or paper[a][b] < 1:
                return False
            beside = [c for c in range(n) if (min(a, c), max(a, c)) in ties]
            if paper[a][b] - 1 not in [paper[c][b] for c in beside]:
                return False
    return True


class TestFarthestTwo(unittest.TestCase):
    def test_many_webs(self):
        for web in joined_webs(many_webs()):
            table = far_table(web)
            twos = [(a, b) for a in range(web[0]) for b in range(a + 1, web[0])] or [(0, 0)]
            most = max(table[a][b] for a, b in twos)
            first = min((a, b) for a, b in twos if table[a][b] == most)
            self.assertEqual(farthest_two(web), (most,) + first, web)

    def test_known_ones(self):
        self.assertEqual(farthest_two((1, [])), (0, 0, 0))
        self.assertEqual(farthest_two((2, [(0, 1)])), (1, 0, 1))
        self.assertEqual(farthest_two(line(60)), (59, 0, 59))
        self.assertEqual(farthest_two(ring(60)), (30, 0, 30))
        self.assertEqual(farthest_two(ring(59)), (29, 0, 29))
        self.assertEqual(farthest_two(star(60)), (2, 1, 2))
        self.assertEqual(farthest_two(full(60)), (1, 0, 1))

    def test_the_first_of_several(self):
        self.assertEqual(farthest_two((5, [(0, 4), (1, 4), (2, 4), (3, 4)])), (2, 0, 1))
        self.assertEqual(farthest_two((6, [(0, 3), (0, 4), (1, 3), (2, 4), (4, 5)])), (4, 1, 2))

    def test_kinds(self):
        for web in ((1, []), ring(7)):
            told = farthest_two(web)
            self.assertIs(type(told), tuple)
            self.assertEqual([type(part) for part in told], [int, int, int])


class TestNoJoin(unittest.TestCase):
    def test_all_refuse(self):
        webs = parted_webs(many_webs())
        self.assertIn((60, []), webs)
        for web in webs:
            with self.assertRaises(NoJoin):
                farthest_two(web)
            with self.assertRaises(NoJoin):
                middles(web)
            with self.assertRaises(NoJoin):
                far_paper(web)
            with self.assertRaises(NoJoin):
                far_shows(web, web[0], [[0] * web[0] for a in range(web[0])])

    def test_ahead_of_what_is_no_paper(self):
        for paper in ([], [[]], [[0]], [[0, 1], [1, 0]], [[0, 1, 1]] * 3, [[-1]]) + tuple(other_things()):
            for d in (0, 1, 10 ** 25, -1):
                with self.assertRaises(NoJoin):
                    far_shows((3, [(0, 1)]), d, paper)


class TestMiddles(unittest.TestCase):
    def test_many_webs(self):
        for web in joined_webs(many_webs()):
            wides = [max(row) for row in far_table(web)]
            wide = min(wides)
            places = [a for a in range(web[0]) if wides[a] == wide]
            self.assertEqual(middles(web), (wide, places), web)

    def test_known_ones(self):
        self.assertEqual(middles((1, [])), (0, [0]))
        self.assertEqual(middles((2, [(0, 1)])), (1, [0, 1]))
        self.assertEqual(middles(star(60)), (1, [0]))
        self.assertEqual(middles(line(59)), (29, [29]))
        self.assertEqual(middles(line(60)), (30, [29, 30]))
        self.assertEqual(middles(ring(60)), (30, list(range(60))))
        self.assertEqual(middles(full(5)), (1, [0, 1, 2, 3, 4]))
        self.assertEqual(middles((5, [(0, 3), (1, 3), (1, 4), (2, 4), (3, 4)])), (2, [1, 3, 4]))

    def test_the_list_rises(self):
        for web in joined_webs(many_webs()):
            places = middles(web)[1]
            self.assertEqual(places, sorted(set(places)))

    def test_the_farthest_is_from_wide_to_twice_it(self):
        for web in joined_webs(many_webs()):
            wide = middles(web)[0]
            self.assertTrue(wide <= farthest_two(web)[0] <= 2 * wide, web)

    def test_kinds(self):
        told = middles(line(4))
        self.assertEqual((type(told), type(told[0]), type(told[1])), (tuple, int, list))


class TestFarPaper(unittest.TestCase):
    def test_is_let_by_for_the_farthest_and_for_no_less(self):
        for web in joined_webs(many_webs()):
            far = farthest_two(web)[0]
            paper = far_paper(web)
            self.assertIs(far_shows(web, far, paper), True, web)
            self.assertIs(far_shows(web, far + 1, paper), True, web)
            self.assertIs(far_shows(web, far - 1, paper), False, web)

    def test_is_one_by_the_words(self):
        for web in joined_webs(small_webs() + made_webs()):
            far = max([max(row) for row in far_table(web)])
            self.assertTrue(shows_by_the_words(web, far, far_paper(web)), web)

    def test_of_one_place(self):
        self.assertEqual(far_paper((1, [])), [[0]])

    def test_kinds(self):
        told = far_paper(line(3))
        self.assertIs(type(told), list)
        for row in told:
            self.assertEqual((type(row), [type(number) for number in row]), (list, [int] * 3))


class TestFarShows(unittest.TestCase):
    def test_every_paper_of_two_places(self):
        web = (2, [(0, 1)])
        for p, q, r, s in itertools.product(range(-2, 4), repeat=4):
            for d in (0, 1, 2, 5):
                right = (p, q, r, s) == (0, 1, 1, 0) and d >= 1
                self.assertIs(far_shows(web, d, [[p, q], [r, s]]), right)

    def test_every_paper_of_three_places(self):
        let_by = 0
        for web in joined_webs(all_webs(3)):
            far = max([max(row) for row in far_table(web)])
            for u, v, w, x, y, z in itertools.product(range(4), repeat=6):
                paper = [[0, u, v], [w, 0, x], [y, z, 0]]
                for d in range(4):
                    told = far_shows(web, d, paper)
                    self.assertIs(told, shows_by_the_words(web, d, paper), (web, d, paper))
                    # Promise 3: what is let by shows nothing that is not so.
                    self.assertFalse(told and far > d, (web, d, paper))
                    let_by += told
        self.assertGreater(let_by, 0)

    def test_papers_with_one_number_changed(self):
        for web in joined_webs(all_webs(4)) + [line(9), ring(9), star(9)]:
            far = max([max(row) for row in far_table(web)])
            for a, b, more in itertools.product(range(web[0]), range(web[0]), (-2, -1, 1, 2)):
                paper = far_table(web)
                paper[a][b] += more
                for d in (far, far + 2):
                    right = shows_by_the_words(web, d, paper)
                    self.assertIs(far_shows(web, d, paper), right, (web, d, paper))

    def test_greater_numbers_may_stand(self):
        # From 0 to 1 the paper goes by 2, though they are tied.
        paper = [[0, 2, 1], [1, 0, 1], [1, 1, 0]]
        self.assertIs(far_shows(full(3), 2, paper), True)
        self.assertIs(far_shows(full(3), 1, paper), False)
        self.assertIs(far_shows(full(3), 3, paper), True)
        # All the way around a ring against the nearer side.
        n = 60
        around = [[(b - a) % n for b in range(n)] for a in range(n)]
        self.assertIs(far_shows(ring(n), n - 1, around), True)
        self.assertIs(far_shows(ring(n), n - 2, around), False)

    def test_the_number_less_by_one_is_of_a_tied_place(self):
        # At 3 place 0 has 4, and 1, the only place tied to it, has 2.
        self.assertIs(far_shows(line(4), 9, [[0, 1, 2, 4], [1, 0, 1, 2], [2, 1, 0, 1], [3, 2, 1, 0]]), False)
        # At 2 place 0 has 1, but 2 itself is not tied to it.
        self.assertIs(far_shows(line(3), 9, [[0, 1, 1], [1, 0, 1], [2, 1, 0]]), False)
        # At 2 place 0 leans on 1, and 1 on none.
        self.assertIs(far_shows(line(3), 9, [[0, 1, 4], [1, 0, 3], [2, 1, 0]]), False)
        # At 0 place 1 goes by 2; the numbers of a two need not be the same both ways.
        self.assertIs(far_shows(full(3), 2, [[0, 1, 1], [2, 0, 1], [1, 1, 0]]), True)
        # At 0 place 2 has 3, and 1 has 1, though list 0 has a 2 at 2.
        self.assertIs(far_shows(line(3), 3, [[0, 1, 2], [1, 0, 1], [3, 1, 0]]), False)

    def test_below_one(self):
        self.assertIs(far_shows(line(2), 5, [[0, 0], [1, 0]]), False)
        self.assertIs(far_shows(line(2), 5, [[0, 0], [0, 0]]), False)
        self.assertIs(far_shows(line(3), 5, [[0, 0, -1], [-1, 0, 0], [0, -1, 0]]), False)
        self.assertIs(far_shows(full(3), 5, [[0, 0, 1], [1, 0, 1], [1, -1, 0]]), False)

    def test_not_nought_at_itself(self):
        for number in (-1, 1, 2, 3, 10 ** 25):
            self.assertIs(far_shows((1, []), 10 ** 26 - 1, [[number]]), False)
            self.assertIs(far_shows(full(3), 10 ** 26 - 1, [[0, 1, 1], [1, number, 1], [1, 1, 0]]), False)
        self.assertIs(far_shows(line(2), 5, [[2, 1], [1, 2]]), False)

    def test_rows_and_numbers_left_out_or_too_many(self):
        for web in ((1, []), line(2), ring(5), line(60)):
            n = web[0]
            right = far_table(web)
            for paper in ([], right[:-1], right[1:], right + [[0] * n], right + [[]], right + right):
                self.assertIs(far_shows(web, n, paper), False)
            for a in {0, n // 2, n - 1}:
                for row in ([], right[a][:-1], right[a][1:], right[a] + [0], right[a] + [1], [0] + right[a]):
                    self.assertIs(far_shows(web, n, right[:a] + [row] + right[a + 1:]), False, (web, a, row))
            self.assertIs(far_shows(web, n, [row[:-1] for row in right]), False)
            self.assertIs(far_shows(web, n, [row + [1] for row in right]), False)

    def test_d_from_nought_on(self):
        self.assertIs(far_shows((1, []), 0, [[0]]), True)
        self.assertIs(far_shows((1, []), 10 ** 25, [[0]]), True)
        self.assertIs(far_shows(line(2), 0, [[0, 1], [1, 0]]), False)
        self.assertIs(far_shows(line(2), 1, [[0, 1], [1, 0]]), True)
        right = far_table(line(60))
        for d in (0, 1, 30, 58):
            self.assertIs(far_shows(line(60), d, right), False)
        for d in (59, 60, 61, 1000, 10 ** 25, 10 ** 26 - 1):
            self.assertIs(far_shows(line(60), d, right), True)

    def test_nothing_is_nearer_than_nought(self):
        self.assertIs(far_shows((1, []), -1, [[0]]), False)
        self.assertIs(far_shows(line(2), -1, [[0, 1], [1, 0]]), False)

    def test_great_numbers(self):
        great = 10 ** 25
        self.assertIs(far_shows(line(2), great, [[0, great], [1, 0]]), False)
        self.assertIs(far_shows(full(3), great, [[0, great, 1], [1, 0, 1], [1, great - 1, 0]]), False)

    def test_truths_are_no_numbers(self):
        self.assertIs(far_shows(line(2), 1, [[0, True], [1, 0]]), False)
        self.assertIs(far_shows((1, []), 1, [[False]]), False)


class TestTheWhole(unittest.TestCase):
    def test_nothing_is_farther_than_told_and_the_told_two_are_so_far(self):
        for web in joined_webs(made_webs() + plain_webs()):
            table = far_table(web)
            far, a, b = farthest_two(web)
            self.assertEqual(table[a][b], far)
            self.assertEqual(max([max(row) for row in table]), far)


if __name__ == "__main__":
    unittest.main()
