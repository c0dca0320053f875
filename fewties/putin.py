"""Ties put into a web, the best tie of a joined web, and the best few."""

from fewties.errors import NoTie
from fewties.farthest import far_rows, most_far
from fewties.webs import are_ties, is_rising, need_number

MOST_FEW = 3
MOST_PLACES_FOR_FEW = 8


def with_ties(web, ties):
    """Tell the web with the ties put in."""
    n, there = web
    if not are_ties(n, ties):
        raise NoTie("this is no list of ties of the web's places, the lesser place first")
    every = sorted(there + ties)
    if not is_rising(every):
        raise NoTie("a tie is there already, or twice in the list")
    return (n, every)


def free_ties(web):
    """Tell the ties that are not there, rising."""
    n, ties = web
    return [(a, b) for a in range(n) for b in range(a + 1, n) if (a, b) not in ties]


def rows_with(rows, tie):
    """Tell how far places are once the tie is put in, by how far they are without it."""
    return [row_with(rows, row, tie) for row in rows]


def row_with(rows, row, tie):
    """Tell one list of rows_with."""
    a, b = tie
    # A shortest way takes the tie once at most, and comes to its nearer end first.
    near, beyond = (a, b) if row[a] < row[b] else (b, a)
    over = row[near] + 1
    return [min(far, over + rest) for far, rest in zip(row, rows[beyond])]


def best_tie(web):
    """Tell the least farthest that one tie more comes to, and the first such tie; None where all are there."""
    rows = far_rows(web)
    return min([(most_far(rows_with(rows, tie)), tie) for tie in free_ties(web)], default=None)


def best_few(web, k):
    """Tell the least farthest that at most k ties more come to, and the first such list."""
    rows = far_rows(web)
    need_number(1, MOST_FEW, k)
    need_number(1, MOST_PLACES_FOR_FEW, web[0])
    level = [([], free_ties(web), rows)]
    tried = list(level)
    for again in range(k):
        level = one_tie_more(level)
        tried += level
    # They are tried shorter lists first, then as lists are, and min tells the first of several.
    return min([(most_far(told), ties) for ties, left, told in tried], key=lambda each: each[0])


def one_tie_more(level):
    """Tell each list of ties with each one more that is left for it, what is left then, and the rows with them."""
    return [
        (ties + [tie], left[at + 1:], rows_with(rows, tie))
        for ties, left, rows in level
        for at, tie in enumerate(left)
    ]
