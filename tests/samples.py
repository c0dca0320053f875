"""What the tests share: webs of many kinds, and slow plain ways to the same answers."""

import itertools
import random


def line(n):
    return (n, [(a, a + 1) for a in range(n - 1)])


def ring(n):
    return (n, sorted([(a, a + 1) for a in range(n - 1)] + [(0, n - 1)]))


def star(n):
    return (n, [(0, b) for b in range(1, n)])


def full(n):
    return (n, list(itertools.combinations(range(n), 2)))


def all_webs(n):
    """Every web of n places."""
    pairs = list(itertools.combinations(range(n), 2))
    return [(n, [pair for at, pair in enumerate(pairs) if bits >> at & 1]) for bits in range(2 ** len(pairs))]


def small_webs():
    return [web for n in range(1, 6) for web in all_webs(n)]


def made_webs():
    """Webs of up to 60 places with few and many ties, the same at every run; some are not joined."""
    chance = random.Random(20)
    webs = []
    for n in list(range(6, 21)) + [30, 45, 59, 60]:
        for share in (0, 1, 2, 6):
            webs.append((n, sorted(made_ties(chance, n, share))))
    return webs


def made_ties(chance, n, share):
    names = list(range(n))
    chance.shuffle(names)
    ties = set()
    for at in range(1, n):
        # Leaving out a tie of the tree now and then makes webs that are not joined.
        if chance.randrange(3 * n) == 0:
            continue
        ties.add(tuple(sorted((names[at], names[chance.randrange(max(0, at - 4), at)]))))
    for again in range(share * n // 4):
        ties.add(tuple(sorted(chance.sample(range(n), 2))))
    return ties


def plain_webs():
    """Lines, rings, stars and full webs, the least and the greatest among them."""
    webs = [line(n) for n in (1, 2, 3, 8, 59, 60)]
    webs += [ring(n) for n in (3, 4, 7, 8, 59, 60)]
    webs += [star(n) for n in (2, 5, 60)]
    webs += [full(n) for n in (2, 5, 20, 60)]
    webs += [(n, []) for n in (2, 3, 60)]
    return webs


def many_webs():
    return small_webs() + made_webs() + plain_webs()


def all_trees(n):
    """Every tree of n places: from each place but 0 a tie to any other, kept where all come to 0."""
    trees = set()
    for others in itertools.product(range(n), repeat=n - 1):
        ties = tuple(sorted({tuple(sorted((a + 1, b))) for a, b in enumerate(others)}))
        if most_steps((n, ties)) is not None and all(a < b for a, b in ties) and len(ties) == n - 1:
            trees.add(ties)
    return [(n, list(ties)) for ties in sorted(trees)]


def made_trees():
    """Trees of up to 60 places, long and short ones, the same at every run."""
    chance = random.Random(7)
    trees = []
    for n in list(range(6, 21)) + [30, 45, 59, 60]:
        for reach in (1, 2, 4, n):
            names = list(range(n))
            chance.shuffle(names)
            ties = [(names[at], names[chance.randrange(max(0, at - reach), at)]) for at in range(1, n)]
            trees.append((n, sorted(tuple(sorted(tie)) for tie in ties)))
    return trees


def many_trees():
    trees = [tree for n in range(1, 6) for tree in all_trees(n)]
    return trees + made_trees() + [line(60), line(59), star(60), star(6)]


def far_table(web):
    """How far each two places are, by letting ways through each place in turn."""
    n, ties = web
    much = n + 1
    far = [[0 if a == b else much for b in range(n)] for a in range(n)]
    for a, b in ties:
        far[a][b] = far[b][a] = 1
    for c in range(n):
        for a in range(n):
            if far[a][c] < much:
                for b in range(n):
                    far[a][b] = min(far[a][b], far[a][c] + far[c][b])
    return [[None if number >= much else number for number in row] for row in far]


def table_joined(table):
    return all(None not in row for row in table)


def joined_webs(webs):
    return [web for web in webs if table_joined(far_table(web))]


def parted_webs(webs):
    return [web for web in webs if not table_joined(far_table(web))]


def most_steps(web):
    """How many steps it takes until every place has come to all places, None where some never do."""
    n, ties = web
    reach = [1 << a for a in range(n)]
    steps = 0
    while any(each != 2 ** n - 1 for each in reach):
        wider = list(reach)
        for a, b in ties:
            wider[a] |= reach[b]
            wider[b] |= reach[a]
        if wider == reach:
            return None
        reach = wider
        steps += 1
    return steps


def ties_left(web):
    """Every tie that is not in the web, as tuples are."""
    n, ties = web
    return [pair for pair in itertools.combinations(range(n), 2) if pair not in ties]


def put(web, ties):
    return (web[0], sorted(web[1] + list(ties)))


def all_ways(web, a, b):
    """Every way from a to b that comes to no place twice."""
    n, ties = web
    ways = []
    begun = [[a]]
    while begun:
        way = begun.pop()
        if way[-1] == b:
            ways.append(way)
            continue
        for c in range(n):
            if c not in way and tuple(sorted((way[-1], c))) in ties:
                begun.append(way + [c])
    return ways


def nested(depth):
    thing = []
    for again in range(depth - 1):
        thing = [thing]
    return thing


def other_things():
    """Things of every kind that are no whole numbers, lists of webs or the like."""
    return [
        True, False, None, "", "0", "1", "web", "4 0-1", b"", b"\x01", [], [0], [1], [[0]], [None], (), (0,), (1,),
        (0, 1), (0, 1, 2), ((0, 1),), {}, {0: 1}, {"n": 1}, set(), {1}, frozenset({1}), object(), int, len, range(3),
        slice(1), 2j, nested(90), (nested(40), nested(40)), Ellipsis, NotImplemented, ValueError("1"), iter([1]),
    ]


def no_numbers(least, most):
    """Things that are no whole number from least to most."""
    return [least - 1, least - 2, most + 1, most + 2, -most - 1, 10 ** 25, -10 ** 25] + other_things()


def no_ties(n):
    """Things that are no tie of n places, n from 4 on."""
    ties = [(0, 0), (2, 2), (n - 1, n - 1), (2, 0), (3, 1), (n - 1, 0), (0, n), (n - 1, n), (n, n + 2), (-1, 1), (-1, 0)]
    ties += [(-3, -1), (-n, 2), (0, 10 ** 25), (-10 ** 25, 2), (False, 2), (0, True), (True, 3), (False, True)]
    ties += [[0, 2], [1, 3], {0, 2}, {0: 2}, "02", "0-2", b"\x00\x02", (0,), (2,), (0, 2, 3), ((0, 2),), ([0], [2])]
    for thing in other_things():
        ties += [(0, thing), (thing, n - 1), (thing, thing)]
        if thing != (0, 1):
            ties.append(thing)
    return ties


def no_texts():
    """Things that write no web."""
    texts = ["", " ", "  ", "\n", "\t", "-", "a", "web", "none", "4a", "a4", "x 0-1", "4,0-1", "4;0-1", "4\t0-1"]
    texts += [" 4", "4 ", " 4 0-1", "4 0-1 ", "4  0-1", "4 0-1  1-2", "4\n", "\n4", "4 0-1\n", "4\n0-1", "4 0-1\t"]
    texts += ["4\r\n", "4 0-1\r", "\t4", "4 \n0-1", "4 0-1 \n"]
    texts += ["0", "61", "62", "99", "100", "600", "0 0-1", "61 0-1", "1" * 30, "9" * 400]
    texts += ["00", "01", "04", "004", "04 0-1", "4 00-1", "4 0-01", "4 00-01", "12 01-10", "12 0-1 1-02", "060"]
    texts += ["+4", "-4", "--4", "4.", "4.0", "4e0", "0x4", "4_0", "1_2", "4 +0-1", "4 0-+1", "4 -0-1", "4 -1-2"]
    texts += ["4 0--1", "4 0-1-", "4 -0-1-", "4 0-1-2", "4 0", "4 0-", "4 -1", "4 -", "4 01", "4 0 1", "4 0=1", "4 0:1"]
    texts += ["4 0-1 0-1", "4 1-2 0-1", "4 0-2 0-1", "4 0-1 1-2 0-3", "4 0-1 2-3 2-3", "12 0-10 0-9", "12 10-11 2-3"]
    texts += ["4 1-0", "4 0-1 2-1", "4 0-0", "4 3-3", "1 0-0", "1 0-1", "4 0-4", "4 3-4", "4 4-5", "60 0-60", "4 0-10"]
    texts += ["4 0-1,1-2", "4 (0-1)", "(4, [(0, 1)])", "4 0-a", "4 a-1", "4 0-1 x", "4 0-1 ok", "4 0 - 1", "4 0- 1"]
    texts += ["4 0 -1", "4 0-1 4", "4 4", "~", "4~", "4 0~1", "/", ":", "4 0-/", "4 0-:", "4 0-1!"]
    # One of the other things is a text that writes a web.
    return texts + [thing for thing in other_things() if not (isinstance(thing, str) and thing in ("1", "4 0-1"))]


def no_places(n):
    """Things that are no place of a web of n places."""
    return [-1, -2, -n, n, n + 1, 61, 10 ** 25, -10 ** 25] + other_things()
