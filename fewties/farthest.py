"""The farthest two places of a joined web, its middles, and papers on how far it is."""

from fewties.errors import NoJoin
from fewties.webs import far_from, is_joined, is_whole, tied_places


def need_joined(web):
    """Refuse a web that is not joined."""
    if not is_joined(web):
        raise NoJoin("the web is not joined")


def far_rows(web):
    """Tell for each place of a joined web how far all places are from it."""
    need_joined(web)
    tied = tied_places(web)
    return [far_from(tied, place) for place in range(len(tied))]


def most_far(rows):
    """Tell how far the farthest two places are, by what far_rows tells."""
    return max([max(row) for row in rows])


def farthest_two(web):
    """Tell how far the farthest two places are, and the first such two."""
    rows = far_rows(web)
    far = most_far(rows)
    # The first of a farthest two is always the lesser: the other one's row has the same number.
    a = [max(row) for row in rows].index(far)
    return (far, a, rows[a].index(far))


def middles(web):
    """Tell how wide the places see that see least wide, and which they are."""
    wides = [max(row) for row in far_rows(web)]
    wide = min(wides)
    return (wide, [place for place, sees in enumerate(wides) if sees == wide])


def far_paper(web):
    """Tell a paper that the web is nowhere farther than its farthest."""
    # How far two places are is such a number: the next place of a shortest way is nearer by one.
    return far_rows(web)


def far_shows(web, d, paper):
    """Tell whether the paper shows that the web is nowhere farther than d."""
    need_joined(web)
    n = web[0]
    # Of one place no number is held against d, and yet nothing is nearer than 0.
    if d < 0 or not is_square(n, paper):
        return False
    tied = tied_places(web)
    return all([number_holds(tied, d, paper, a, b) for a in range(n) for b in range(n)])


def is_square(n, paper):
    """Tell whether the paper is a list of n lists of n whole numbers."""
    if not is_long(n, paper) or not all([is_long(n, row) for row in paper]):
        return False
    return all([is_whole(number) for row in paper for number in row])


def is_long(n, thing):
    """Tell whether the thing is a list of n things."""
    return isinstance(thing, list) and len(thing) == n


def number_holds(tied, d, paper, a, b):
    """Tell whether number b of list a is as a paper for d has it."""
    number = paper[a][b]
    if a == b:
        return number == 0
    if not 1 <= number <= d:
        return False
    return any([paper[place][b] == number - 1 for place in tied[a]])
