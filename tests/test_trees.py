"""Promise 17, and 3 as far as it reaches: trees."""

import unittest

from fewties.errors import NoTree
from fewties.farthest import farthest_two, middles
from fewties.trees import far_ends, far_way, is_tree, parting_tie
from fewties.webs import all_far, short_way
from samples import all_trees, all_ways, far_table, full, line, made_trees, made_webs, many_trees, many_webs, most_steps
from samples import plain_webs, put, ring, small_webs, star, ties_left

TREES = many_trees()
# Seven places: 1, 5, 6 hang on 4, and 0, 2 on 3, which is tied to 4.
BUSH = (7, [(0, 3), (1, 4), (2, 3), (3, 4), (4, 5), (4, 6)])


def without(web, tie):
    return (web[0], [other for other in web[1] if other != tie])


def no_trees():
    """Webs that are no trees: those of all kinds that have a ring or are not joined."""
    webs = small_webs() + made_webs() + plain_webs()
    webs = [web for web in webs if len(web[1]) != web[0] - 1 or most_steps(web) is None]
    for tree in made_trees()[::3]:
        webs.append(without(tree, tree[1][0]))
        webs.append(put(tree, ties_left(tree)[-1:]))
    return webs


def parts_of(web):
    """The places that come to one another, as rising lists."""
    table = far_table(web)
    return sorted({tuple(b for b in range(web[0]) if row[b] is not None) for row in table})


def parting_by_the_words(tree):
    """Each tie taken out in turn, and both parts looked at by themselves."""
    tried = []
    for tie in tree[1]:
        left = without(tree, tie)
        table = far_table(left)
        parts = parts_of(left)
        assert len(parts) == 2
        tried.append((max(max(table[a][b] for a in part for b in part) for part in parts), tie))
    return min(tried, default=None)


class TestIsTree(unittest.TestCase):
    def test_every_small_web(self):
        for n in range(1, 6):
            trees = all_trees(n)
            # So many trees of n places there are.
            self.assertEqual(len(trees), n ** (n - 2) if n > 1 else 1)
            for web in [web for web in small_webs() if web[0] == n]:
                self.assertIs(is_tree(web), web in trees, web)

    def test_many_webs(self):
        for web in TREES:
            self.assertIs(is_tree(web), True, web)
        for web in no_trees():
            self.assertIs(is_tree(web), False, web)
        for web in many_webs():
            right = most_steps(web) is not None and len(web[1]) == web[0] - 1
            self.assertIs(is_tree(web), right, web)

    def test_one_place(self):
        self.assertIs(is_tree((1, [])), True)

    def test_no_ties(self):
        for n in (2, 3, 60):
            self.assertIs(is_tree((n, [])), False)

    def test_a_tie_less_and_one_more(self):
        for tree in TREES:
            for tie in tree[1]:
                self.assertIs(is_tree(without(tree, tie)), False, (tree, tie))
            for tie in ties_left(tree)[::7]:
                self.assertIs(is_tree(put(tree, [tie])), False, (tree, tie))

    def test_a_tie_exchanged_so_that_a_ring_comes(self):
        self.assertIs(is_tree((4, [(0, 1), (0, 2), (1, 2)])), False)
        self.assertIs(is_tree((60, sorted(ring(59)[1]))), False)
        for tree in made_trees()[::4]:
            for tie in tree[1][::3]:
                left = without(tree, tie)
                for part in parts_of(left):
                    inside = [pair for pair in ties_left(left) if set(pair) <= set(part)]
                    for pair in inside[:2]:
                        self.assertIs(is_tree(put(left, [pair])), False, (tree, tie, pair))

    def test_a_tie_exchanged_so_that_it_stays_a_tree(self):
        for tree in made_trees()[::4]:
            for tie in tree[1][::5]:
                left = without(tree, tie)
                one, two = parts_of(left)
                pair = tuple(sorted((one[-1], two[0])))
                self.assertIs(is_tree(put(left, [pair])), True, (tree, tie, pair))


class TestFarWay(unittest.TestCase):
    def test_as_the_short_way_of_the_farthest_two(self):
        for tree in TREES:
            far, a, b = farthest_two(tree)
            self.assertEqual(far_way(tree), short_way(tree, a, b), tree)

    def test_it_is_the_only_way_and_as_long_as_the_farthest(self):
        for tree in TREES:
            table = far_table(tree)
            most = max(max(row) for row in table)
            n = tree[0]
            a, b = min((a, b) for a in range(n) for b in range(a, n) if table[a][b] == most)
            self.assertEqual(all_ways(tree, a, b), [far_way(tree)], tree)
            self.assertEqual(len(far_way(tree)), most + 1, tree)

    def test_known_ones(self):
        self.assertEqual(far_way((1, [])), [0])
        self.assertEqual(far_way((2, [(0, 1)])), [0, 1])
        self.assertEqual(far_way(line(60)), list(range(60)))
        self.assertEqual(far_way(star(60)), [1, 0, 2])
        self.assertEqual(far_way(BUSH), [0, 3, 4, 1])

    def test_kinds(self):
        for tree in ((1, []), line(2), BUSH):
            told = far_way(tree)
            self.assertEqual((type(told), {type(place) for place in told}), (list, {int}))


class TestFarEnds(unittest.TestCase):
    def test_the_places_that_see_as_wide_as_the_farthest(self):
        for tree in TREES:
            wides = [max(row) for row in far_table(tree)]
            right = [place for place in range(tree[0]) if wides[place] == max(wides)]
            self.assertEqual(far_ends(tree), right, tree)

    def test_known_ones(self):
        self.assertEqual(far_ends((1, [])), [0])
        self.assertEqual(far_ends((2, [(0, 1)])), [0, 1])
        self.assertEqual(far_ends(line(60)), [0, 59])
        self.assertEqual(far_ends(star(5)), [1, 2, 3, 4])
        self.assertEqual(far_ends(BUSH), [0, 1, 2, 5, 6])
        # Place 3 is an end of ties, but of no farthest way.
        self.assertEqual(far_ends((6, [(0, 1), (1, 2), (2, 3), (2, 4), (4, 5)])), [0, 5])

    def test_the_first_of_the_farthest_from_any_place_is_one(self):
        for tree in TREES:
            ends = far_ends(tree)
            for place in range(tree[0]):
                far = all_far(tree, place)
                self.assertIn(far.index(max(far)), ends, (tree, place))

    def test_the_farthest_two_and_the_ends_of_the_far_way_are_among_them(self):
        for tree in TREES:
            ends = far_ends(tree)
            far, a, b = farthest_two(tree)
            self.assertEqual(ends[0], a, tree)
            self.assertIn(b, ends, tree)
            self.assertEqual((far_way(tree)[0], far_way(tree)[-1]), (a, b), tree)

    def test_kinds(self):
        for tree in ((1, []), line(2), BUSH):
            told = far_ends(tree)
            self.assertEqual((type(told), {type(place) for place in told}), (list, {int}))


class TestMiddlesOfTrees(unittest.TestCase):
    def test_one_place_or_two_tied_ones_in_the_middle_of_the_far_way(self):
        for tree in TREES:
            wide, places = middles(tree)
            way = far_way(tree)
            far = len(way) - 1
            self.assertEqual(wide, (far + 1) // 2, tree)
            self.assertEqual(places, sorted(way[far // 2:far // 2 + 1 + far % 2]), tree)
            self.assertTrue(len(places) == 1 or tuple(places) in tree[1], tree)


class TestPartingTie(unittest.TestCase):
    def test_many_trees(self):
        trees = [tree for tree in TREES if tree[0] < 25] + [tree for tree in made_trees() if tree[0] in (30, 60)][::3]
        for tree in trees:
            self.assertEqual(parting_tie(tree), parting_by_the_words(tree), tree)

    def test_every_tree_of_six_places(self):
        for tree in all_trees(6)[::2]:
            self.assertEqual(parting_tie(tree), parting_by_the_words(tree), tree)

    def test_one_place(self):
        self.assertIsNone(parting_tie((1, [])))

    def test_known_ones(self):
        self.assertEqual(parting_tie((2, [(0, 1)])), (0, (0, 1)))
        self.assertEqual(parting_tie(line(3)), (1, (0, 1)))
        self.assertEqual(parting_tie(line(4)), (1, (1, 2)))
        self.assertEqual(parting_tie(line(60)), (29, (29, 30)))
        self.assertEqual(parting_tie(line(59)), (29, (28, 29)))
        self.assertEqual(parting_tie(star(3)), (1, (0, 1)))
        self.assertEqual(parting_tie(star(60)), (2, (0, 1)))
        self.assertEqual(parting_tie(BUSH), (2, (3, 4)))

    def test_of_several_the_first(self):
        # Whichever tie is taken out, three of the four arms stay together.
        self.assertEqual(parting_tie((5, [(0, 4), (1, 4), (2, 4), (3, 4)])), (2, (0, 4)))
        # A line 0 3 2 1 4: both ties at its middle place leave three places and two.
        self.assertEqual(parting_tie((5, [(0, 3), (1, 2), (1, 4), (2, 3)])), (2, (1, 2)))

    def test_a_better_tie_stands_behind_others(self):
        # A line 0 5 2 4 1 3, parted in its middle.
        self.assertEqual(parting_tie((6, [(0, 5), (1, 3), (1, 4), (2, 4), (2, 5)])), (2, (2, 4)))

    def test_kinds(self):
        told = parting_tie(BUSH)
        self.assertEqual((type(told), type(told[0]), type(told[1])), (tuple, int, tuple))


class TestNoTree(unittest.TestCase):
    def test_all_three_refuse_what_is_no_tree(self):
        for web in no_trees():
            for call in (far_way, far_ends, parting_tie):
                with self.assertRaises(NoTree, msg=web):
                    call(web)

    def test_known_ones(self):
        parted = (2, []), (60, []), (4, [(0, 1), (2, 3)]), (4, [(0, 1), (0, 2), (1, 2)]), (3, [(1, 2)])
        for web in parted + (ring(3), ring(60), full(4), put(line(5), [(0, 4)])):
            for call in (far_way, far_ends, parting_tie):
                with self.assertRaises(NoTree, msg=web):
                    call(web)


if __name__ == "__main__":
    unittest.main()
