"""A web that grows by a place or a tie at a time."""

from fewties.farthest import farthest_two
from fewties.putin import with_ties
from fewties.webs import MOST_PLACES, how_far, is_joined, need_number, need_place


def far_or_none(web):
    """Tell how far the farthest two places are, None of a web that is not joined."""
    return farthest_two(web)[0] if is_joined(web) else None


class Grower:
    """A web that grows."""

    def __init__(self, web):
        n, ties = web
        self.held = (n, list(ties))

    def put_place(self, a):
        """Put in a place tied to a; tell how far the farthest was and is now."""
        need_place(self.held, a)
        n, ties = self.held
        need_number(1, MOST_PLACES - 1, n)
        return self.become(with_ties((n + 1, ties), [(a, n)]))

    def put_tie(self, a, b):
        """Put in a tie; tell how far the farthest was and is now."""
        return self.become(with_ties(self.held, [(a, b)]))

    def become(self, grown):
        """Hold the grown web from now on; tell how far the farthest was and is now."""
        before = far_or_none(self.held)
        self.held = grown
        return (before, far_or_none(grown))

    def web(self):
        """Tell the web as it is now."""
        n, ties = self.held
        return (n, list(ties))

    def farthest(self):
        """Tell how far the farthest two places are, and the first such two."""
        return farthest_two(self.held)

    def far(self, a, b):
        """Tell how far a and b are from one another, None where no ties lead."""
        return how_far(self.held, a, b)
