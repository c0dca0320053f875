"""Lines and rings of any length: how far they are with one tie put in, by rule."""

from fewties.errors import NoTie
from fewties.webs import is_tie, need_number

MOST_LONG = 10 ** 18


def need_span(n, most, tie):
    """Refuse what is no tie of n places from one to another that stands from 2 to most places on."""
    if not is_tie(n, tie) or not 2 <= tie[1] - tie[0] <= most:
        raise NoTie("this is no tie that can be put in")


def line_far(n, tie):
    """Tell how far the farthest places of a line are, with the tie put in or, for None, without one."""
    need_number(1, MOST_LONG, n)
    if tie is None:
        return n - 1
    need_span(n, n - 1, tie)
    a, b = tie
    left = a
    right = n - 1 - b
    # The tie makes a ring of the places from a to b; what is left of the line hangs on its two tied places.
    around = (b - a + 1) // 2
    return max(left + around, right + around, left + 1 + right)


def ring_far(n, tie):
    """Tell how far the farthest places of a ring are, with the tie put in or, for None, without one."""
    need_number(3, MOST_LONG, n)
    if tie is not None:
        need_span(n, n - 2, tie)
    # The tie parts the ring into two arcs. From about the middle of one to about the middle of the other it is
    # half the ring either way around, and over the tie no less.
    return n // 2


def line_best(n):
    """Tell the least farthest that one tie brings a line to, and the first tie that does."""
    need_number(3, MOST_LONG, n)
    # From 0 to the last place the tie makes a ring of all. Of an even n it may end one place sooner, as a ring of
    # one place less is nearer by one, and the place left hangs on it by one; any sooner it is farther than half.
    return (n // 2, (0, (n - 1) // 2 * 2))


def ring_best(n):
    """Tell the least farthest that one tie brings a ring to, and the first tie, as all do."""
    need_number(4, MOST_LONG, n)
    return (n // 2, (0, 2))
