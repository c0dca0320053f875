"""Trees: a farthest way, the ends that are farthest, and the tie that parts a tree best."""

from fewties.errors import NoTree
from fewties.farthest import far_rows, farthest_two, most_far
from fewties.webs import is_joined, short_way


def is_tree(web):
    """Tell whether the web is joined and has one tie less than places."""
    n, ties = web
    return len(ties) == n - 1 and is_joined(web)


def need_tree(web):
    """Refuse a web that is no tree."""
    if not is_tree(web):
        raise NoTree("the web is no tree")


def far_way(web):
    """Tell the way from the first of the farthest two places to the second."""
    need_tree(web)
    far, a, b = farthest_two(web)
    return short_way(web, a, b)


def far_ends(web):
    """Tell all places that are an end of a farthest way."""
    need_tree(web)
    rows = far_rows(web)
    far = most_far(rows)
    return [place for place, row in enumerate(rows) if max(row) == far]


def parting_tie(web):
    """Tell the least farthest that the farther of two trees parted by a tie has, and the first such tie."""
    need_tree(web)
    rows = far_rows(web)
    return min([(parted_far(rows, tie), tie) for tie in web[1]], default=None)


def parted_far(rows, tie):
    """Tell how far the farthest places are that stay together once the tie of a tree is taken out."""
    a, b = tie
    # No place is as far from a as from b: a tree has one way only, and it takes the tie to one of them.
    sides = [row[a] < row[b] for row in rows]
    # Places on one side are as far as before, as their way never took the tie.
    return max([far for row, side in zip(rows, sides) for far, other in zip(row, sides) if side == other])
