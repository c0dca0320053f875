"""Promises 15, 16, and 3 as far as these reach: lines and rings of any length."""

import unittest

from fewties.errors import NoNumber, NoTie
from fewties.lines import line_best, line_far, ring_best, ring_far
from samples import line, most_steps, no_numbers, no_ties, other_things, put, ring, ties_left

MOST = 10 ** 18
SMALL = 19


class TestLineFar(unittest.TestCase):
    def test_every_tie_of_small_lines(self):
        for n in range(1, SMALL):
            self.assertEqual(line_far(n, None), most_steps(line(n)), n)
            for tie in ties_left(line(n)):
                self.assertEqual(line_far(n, tie), most_steps(put(line(n), [tie])), (n, tie))

    def test_some_ties_of_greater_lines(self):
        for n in (40, 41, 59, 60):
            for tie in ties_left(line(n))[::37]:
                self.assertEqual(line_far(n, tie), most_steps(put(line(n), [tie])), (n, tie))

    def test_the_greatest(self):
        self.assertEqual(line_far(MOST, None), MOST - 1)
        self.assertEqual(line_far(MOST, (0, MOST - 1)), MOST // 2)
        self.assertEqual(line_far(MOST, (0, MOST - 2)), MOST // 2)
        self.assertEqual(line_far(MOST, (0, MOST - 3)), MOST // 2 + 1)
        self.assertEqual(line_far(MOST - 1, (0, MOST - 2)), MOST // 2 - 1)
        self.assertEqual(line_far(MOST - 1, (0, MOST - 3)), MOST // 2)
        self.assertEqual(line_far(MOST, (0, 2)), MOST - 2)
        self.assertEqual(line_far(MOST, (5, 7)), MOST - 2)
        self.assertEqual(line_far(MOST, (MOST - 3, MOST - 1)), MOST - 2)
        self.assertEqual(line_far(MOST, (1, MOST - 1)), MOST // 2)
        self.assertEqual(line_far(MOST, (MOST // 4, MOST // 4 * 3)), MOST // 2)

    def test_the_same_shape_at_any_length(self):
        self.assertEqual(most_steps(put(line(12), [(4, 8)])), 8)
        for times in (1, 2, 3, 10 ** 9, MOST // 12):
            # From end to end: 4 times to the tie, 1 over it, and from its other place 4 times less 1.
            self.assertEqual(line_far(12 * times, (4 * times, 8 * times)), 8 * times)

    def test_the_least(self):
        self.assertEqual(line_far(1, None), 0)
        self.assertEqual(line_far(2, None), 1)
        self.assertEqual(line_far(3, (0, 2)), 1)

    def test_kinds(self):
        for tie in (None, (0, 2)):
            self.assertIs(type(line_far(4, tie)), int)


class TestRingFar(unittest.TestCase):
    def test_every_tie_of_small_rings(self):
        for n in range(3, SMALL):
            self.assertEqual(ring_far(n, None), most_steps(ring(n)), n)
            for tie in ties_left(ring(n)):
                self.assertEqual(ring_far(n, tie), most_steps(put(ring(n), [tie])), (n, tie))

    def test_some_ties_of_greater_rings(self):
        for n in (40, 41, 59, 60):
            for tie in ties_left(ring(n))[::37]:
                self.assertEqual(ring_far(n, tie), most_steps(put(ring(n), [tie])), (n, tie))

    def test_the_greatest(self):
        for tie in (None, (0, 2), (0, MOST - 2), (1, MOST - 1), (0, MOST // 2), (MOST - 3, MOST - 1)):
            self.assertEqual(ring_far(MOST, tie), MOST // 2)
        for tie in (None, (0, 2), (0, MOST - 3), (1, MOST - 2), (0, MOST // 2)):
            self.assertEqual(ring_far(MOST - 1, tie), MOST // 2 - 1)

    def test_no_tie_brings_a_ring_to_less_at_any_length(self):
        for n in (4, 5, 6, 7, 100, 101, 10 ** 9, 10 ** 9 + 7, MOST - 1, MOST):
            for tie in ((0, 2), (0, n // 2), (1, 3), (n // 2 - 1, n - 1), (n - 3, n - 1)):
                if tie[1] - tie[0] >= 2:
                    self.assertEqual(ring_far(n, tie), ring_far(n, None))

    def test_kinds(self):
        for tie in (None, (0, 2)):
            self.assertIs(type(ring_far(4, tie)), int)


class TestNoTie(unittest.TestCase):
    def line_refuses(self, n, tie):
        with self.assertRaises(NoTie, msg=(n, tie)):
            line_far(n, tie)

    def ring_refuses(self, n, tie):
        with self.assertRaises(NoTie, msg=(n, tie)):
            ring_far(n, tie)

    def test_there_already(self):
        for n in range(2, 10):
            for tie in line(n)[1]:
                self.line_refuses(n, tie)
        for n in range(3, 10):
            for tie in ring(n)[1]:
                self.ring_refuses(n, tie)
        for tie in ((0, 1), (MOST // 2, MOST // 2 + 1), (MOST - 2, MOST - 1)):
            self.line_refuses(MOST, tie)
            self.ring_refuses(MOST, tie)
        self.ring_refuses(MOST, (0, MOST - 1))
        self.assertEqual(line_far(5, (0, 4)), 2)

    def test_every_two_that_is_no_tie(self):
        for n in range(1, 8):
            for a in range(-2, n + 2):
                for b in range(-2, n + 2):
                    if (a, b) not in ties_left(line(n)):
                        self.line_refuses(n, (a, b))
                    if n >= 3 and (a, b) not in ties_left(ring(n)):
                        self.ring_refuses(n, (a, b))

    def test_other_things(self):
        for n in (4, 7, 60, MOST):
            for thing in no_ties(n):
                if thing is not None:
                    self.line_refuses(n, thing)
                    self.ring_refuses(n, thing)
            for thing in (0, 1, 2, -1, 10 ** 25, [(0, 2)], ((0, 2), (1, 3))):
                self.line_refuses(n, thing)
                self.ring_refuses(n, thing)

    def test_beyond_the_greatest(self):
        for tie in ((0, MOST), (MOST - 2, MOST), (MOST, MOST + 2), (-2, 0), (-1, MOST - 1), (MOST - 1, 0)):
            self.line_refuses(MOST, tie)
            self.ring_refuses(MOST, tie)


class TestNoNumber(unittest.TestCase):
    def test_far_ahead_of_no_tie(self):
        for tie in [None, (0, 2), (0, 1), (2, 0)] + other_things():
            for n in no_numbers(1, MOST):
                with self.assertRaises(NoNumber, msg=(n, tie)):
                    line_far(n, tie)
            for n in no_numbers(3, MOST):
                with self.assertRaises(NoNumber, msg=(n, tie)):
                    ring_far(n, tie)

    def test_best(self):
        for n in no_numbers(3, MOST):
            with self.assertRaises(NoNumber, msg=n):
                line_best(n)
        for n in no_numbers(4, MOST):
            with self.assertRaises(NoNumber, msg=n):
                ring_best(n)

    def test_the_least_taken_and_one_below(self):
        self.assertEqual(line_far(1, None), 0)
        self.assertEqual(ring_far(3, None), 1)
        self.assertEqual(line_best(3), (1, (0, 2)))
        self.assertEqual(ring_best(4), (2, (0, 2)))
        for ask, n in ((line_best, 2), (line_best, 1), (line_best, 0), (ring_best, 3), (ring_best, 2)):
            with self.assertRaises(NoNumber):
                ask(n)
        for ask, n in ((line_far, 0), (ring_far, 2), (ring_far, 1), (ring_far, 0)):
            with self.assertRaises(NoNumber):
                ask(n, None)

    def test_the_greatest_taken_and_one_above(self):
        for ask in (line_best, ring_best):
            self.assertEqual(ask(MOST)[0], MOST // 2)
            with self.assertRaises(NoNumber):
                ask(MOST + 1)
        for ask in (line_far, ring_far):
            ask(MOST, None)
            with self.assertRaises(NoNumber):
                ask(MOST + 1, None)


class TestBest(unittest.TestCase):
    def first_of_least(self, web):
        return min((most_steps(put(web, [tie])), tie) for tie in ties_left(web))

    def test_all_ties_of_small_lines(self):
        for n in range(3, 25):
            self.assertEqual(line_best(n), self.first_of_least(line(n)), n)
            self.assertEqual(line_best(n)[0], n // 2)

    def test_all_ties_of_small_rings(self):
        for n in range(4, 25):
            self.assertEqual(ring_best(n), self.first_of_least(ring(n)), n)
            self.assertEqual(ring_best(n)[0], n // 2)

    def test_the_greatest(self):
        self.assertEqual(line_best(MOST), (MOST // 2, (0, MOST - 2)))
        self.assertEqual(line_best(MOST - 1), (MOST // 2 - 1, (0, MOST - 2)))
        self.assertEqual(ring_best(MOST), (MOST // 2, (0, 2)))
        self.assertEqual(ring_best(MOST - 1), (MOST // 2 - 1, (0, 2)))

    def test_the_tie_told_comes_to_what_is_told(self):
        for n in (4, 5, 60, 61, 10 ** 6, 10 ** 6 + 1, MOST - 1, MOST):
            far, tie = line_best(n)
            self.assertEqual((far, line_far(n, tie)), (n // 2, n // 2))
            # Any tie that comes before it is farther.
            self.assertEqual(tie[0], 0)
            for b in (2, n // 2, tie[1] - 2, tie[1] - 1):
                if 2 <= b < tie[1]:
                    self.assertGreater(line_far(n, (0, b)), far)
            far, tie = ring_best(n)
            self.assertEqual((far, ring_far(n, tie)), (n // 2, n // 2))

    def test_kinds(self):
        for told in (line_best(7), ring_best(7)):
            self.assertEqual((type(told), type(told[0]), type(told[1])), (tuple, int, tuple))


if __name__ == "__main__":
    unittest.main()
