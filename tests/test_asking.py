"""Promise 2: nothing handed in is changed or kept, and what is told is the asker's own."""

import copy
import unittest

from fewties.desk import Desk
from fewties.errors import TieError
from fewties.farthest import far_paper, far_shows, farthest_two, middles
from fewties.growing import Grower
from fewties.hubs import hub_ties, hubs_for
from fewties.lines import line_best, line_far, ring_best, ring_far
from fewties.putin import best_few, best_tie, with_ties
from fewties.texts import read_web, show_web
from fewties.trees import far_ends, far_way, is_tree, parting_tie
from fewties.webs import all_far, how_far, is_joined, is_web, short_way
from fewties.whatever import best_stay, stay_shows
from samples import far_table, line, made_trees, many_webs, no_places, no_ties, other_things, ring, ties_left


def told_by_grower(web):
    """What a Grower begun with the web tells, behind each of a few steps."""
    grower, last = Grower(web), web[0] - 1
    told = []
    for call, handed in ((grower.put_place, [last]), (grower.put_tie, [0, web[0]]), (grower.put_tie, [last, 0])):
        told += [grower.web(), answer(call, handed), answer(grower.farthest, []), grower.far(0, last), grower.web()]
    return told


def told_by_desk(web):
    """What a Desk with the web tells, and the names by which webs stand."""
    desk, last = Desk(), web[0] - 1
    rows = ["web a " + show_web(web), f"far a 0 {last}", "farthest a", "middles a", "hubs a 3", "show a", f"tie a {last} 0"]
    return [[answer(desk.say, [row]), desk.names()] for row in rows + ["show a", "drop a", "show a"]]


def asked(web):
    """Every call that is asked of a web, with all that is handed in."""
    last = web[0] - 1
    paper = [[0 if far is None else far for far in row] for row in far_table(web)]
    calls = [
        (is_web, [web]), (how_far, [web, 0, last]), (all_far, [web, last]), (is_joined, [web]),
        (short_way, [web, last, 0]), (farthest_two, [web]), (middles, [web]), (far_paper, [web]),
        (far_shows, [web, last, paper]), (far_shows, [web, 0, paper]), (with_ties, [web, []]),
        (with_ties, [web, ties_left(web)[1:9][::-1]]), (with_ties, [web, [(last, 0)]]),
        (stay_shows, [web, 0, (0, [0, last])]), (stay_shows, [web, 1, (2, [last, 0])]), (best_stay, [web, 0]),
        (best_stay, [web, 1]), (hubs_for, [web, 0]), (hubs_for, [web, 3]), (hub_ties, [web, 0]), (hub_ties, [web, 3]),
        (best_few, [web, 1]), (line_far, [web[0], None]), (line_far, [web[0], (0, last)]),
        (ring_far, [web[0], (0, 2)]), (line_best, [web[0]]), (ring_best, [web[0]]), (is_tree, [web]), (far_way, [web]),
        (far_ends, [web]), (parting_tie, [web]), (show_web, [web]), (read_web, [show_web(web)]),
        (told_by_grower, [web]), (told_by_desk, [web]),
    ]
    # Of greater webs nothing is promised of the best tie.
    return calls + [(best_tie, [web])] if web[0] <= 22 else calls


def answer(call, handed):
    try:
        return call(*handed)
    except TieError as refusal:
        return type(refusal)


def lists_in(thing):
    """Every list that stands somewhere in the thing."""
    if not isinstance(thing, (list, tuple)):
        return []
    found = [thing] if isinstance(thing, list) else []
    for part in thing:
        found += lists_in(part)
    return found


def spoil(thing):
    for each in lists_in(thing):
        each.append("spoilt")
        each[0] = "spoilt"


SOME_WEBS = [web for web in many_webs() if web[0] != 5] + made_trees()[::5]


class TestAsking(unittest.TestCase):
    def test_what_is_handed_in_stays_as_it_is(self):
        for web in SOME_WEBS:
            for call, handed in asked(web):
                before = copy.deepcopy(handed)
                answer(call, handed)
                self.assertEqual(handed, before, call)

    def test_what_is_refused_stays_as_it_is(self):
        for at in range(len(no_places(4))):
            thing, before = no_places(4)[at], repr(no_places(4)[at])
            if " at 0x" in before:
                continue
            for handed in ([line(4), thing, 0], [line(4), 0, thing]):
                answer(how_far, handed)
                answer(short_way, handed)
            answer(all_far, [line(4), thing])
            for call in (best_few, best_stay, hubs_for, hub_ties):
                answer(call, [line(4), thing])
            self.assertEqual(repr(thing), before)

    def test_ties_that_are_refused_stay_as_they_are(self):
        for at in range(len(no_ties(4))):
            thing, before = no_ties(4)[at], repr(no_ties(4)[at])
            if " at 0x" in before:
                continue
            ties, web = [(0, 3), thing, (0, 2)], line(4)
            answer(with_ties, [web, ties])
            answer(with_ties, [web, thing])
            answer(line_far, [4, thing])
            answer(ring_far, [4, thing])
            self.assertEqual((repr(thing), len(ties), ties[0], ties[2]), (before, 3, (0, 3), (0, 2)))
            self.assertEqual(web, line(4))

    def test_is_web_changes_nothing(self):
        for thing in other_things():
            wrapped = (4, [(0, 1), thing])
            inner = list(wrapped[1])
            is_web(thing)
            is_web(wrapped)
            self.assertEqual(wrapped[1], inner)

    def test_the_same_asked_again_is_answered_the_same(self):
        for web in SOME_WEBS:
            for call, handed in asked(web):
                first = copy.deepcopy(answer(call, handed))
                self.assertEqual(answer(call, handed), first)
                self.assertEqual(answer(call, copy.deepcopy(handed)), first)

    def test_what_the_asker_changes_changes_nothing_told_later(self):
        for web in SOME_WEBS:
            for call, handed in asked(web):
                told = answer(call, handed)
                kept = copy.deepcopy(told)
                spoil(told)
                self.assertEqual(answer(call, handed), kept, call)

    def test_no_two_lists_told_are_one(self):
        for web in SOME_WEBS:
            for call, handed in asked(web):
                told = lists_in([answer(call, handed), answer(call, handed)])[1:]
                every = told + lists_in(handed)
                self.assertEqual(len({id(each) for each in every}), len(every), call)

    def test_no_row_of_a_paper_is_another(self):
        for web in ((1, []), line(2), ring(60)):
            paper = far_paper(web)
            paper[0][0] = 7
            self.assertEqual([row[0] for row in paper[1:]], [row[0] for row in far_paper(web)[1:]])
            self.assertEqual(len({id(row) for row in paper}), web[0])

    def test_a_web_that_changes_is_asked_anew(self):
        web = (4, [(0, 1), (1, 2)])
        self.assertIs(is_joined(web), False)
        self.assertIsNone(short_way(web, 0, 3))
        web[1].append((2, 3))
        self.assertIs(is_joined(web), True)
        self.assertEqual(short_way(web, 0, 3), [0, 1, 2, 3])
        self.assertEqual(farthest_two(web), (3, 0, 3))
        web[1].insert(1, (0, 3))
        self.assertEqual(farthest_two(web), (2, 0, 2))
        self.assertEqual(middles(web), (2, [0, 1, 2, 3]))

    def test_a_web_with_ties_put_in_hangs_on_nothing_handed_in(self):
        web, ties = line(4), [(1, 3), (0, 2)]
        told = with_ties(web, ties)
        web[1].clear()
        ties.clear()
        self.assertEqual(told, (4, [(0, 1), (0, 2), (1, 2), (1, 3), (2, 3)]))
        web = line(4)
        with_ties(web, [])[1].clear()
        self.assertEqual(web, line(4))

    def test_a_web_that_changes_is_bettered_anew(self):
        web = line(4)
        self.assertEqual((best_tie(web), best_few(web, 3)), ((2, (0, 2)), (1, [(0, 2), (0, 3), (1, 3)])))
        self.assertEqual((best_stay(web, 0), hubs_for(web, 1)), ((1, [0, 3]), (1, [0, 3])))
        web[1].insert(1, (0, 3))
        self.assertEqual((best_tie(web), best_few(web, 3)), ((2, (0, 2)), (1, [(0, 2), (1, 3)])))
        self.assertEqual((best_stay(web, 0), hubs_for(web, 1)), ((0, [0, 1]), (1, [0, 2])))

    def test_a_tree_that_changes_is_looked_at_anew(self):
        tree = line(4)
        self.assertEqual((is_tree(tree), far_way(tree), far_ends(tree)), (True, [0, 1, 2, 3], [0, 3]))
        self.assertEqual((parting_tie(tree), show_web(tree)), ((1, (1, 2)), "4 0-1 1-2 2-3"))
        tree[1][2] = (1, 3)
        self.assertEqual((is_tree(tree), far_way(tree), far_ends(tree)), (True, [0, 1, 2], [0, 2, 3]))
        self.assertEqual((parting_tie(tree), show_web(tree)), ((2, (0, 1)), "4 0-1 1-2 1-3"))
        tree[1].pop()
        self.assertIs(is_tree(tree), False)

    def test_a_paper_for_ties_that_changes_is_looked_at_anew(self):
        paper = (1, [0, 3])
        self.assertIs(stay_shows(line(4), 0, paper), True)
        paper[1][0] = 1
        self.assertIs(stay_shows(line(4), 0, paper), False)
        paper[1][0] = 0
        self.assertIs(stay_shows(line(4), 0, paper), True)

    def test_a_paper_that_changes_is_looked_at_anew(self):
        paper = far_table(line(3))
        self.assertIs(far_shows(line(3), 2, paper), True)
        paper[0][2] = 1
        self.assertIs(far_shows(line(3), 2, paper), False)
        paper[0][2] = 2
        self.assertIs(far_shows(line(3), 2, paper), True)


if __name__ == "__main__":
    unittest.main()
