"""Papers on how far a joined web must stay, whatever so many ties are put in."""

from fewties.farthest import far_rows, most_far
from fewties.webs import is_place, is_rising, is_whole, need_number

MOST_STAY_TIES = 5
MOST_PLACES_FOR_STAY = 12


def stay_shows(web, k, paper):
    """Tell whether the paper is one for k ties."""
    rows = far_rows(web)
    # Fewer ties than none are nothing to show a thing of.
    if k < 0 or not is_pair(paper):
        return False
    r, places = paper
    if r < 0 or len(places) < need_places(k):
        return False
    if not all([is_place(len(rows), place) for place in places]):
        return False
    return is_rising(places) and are_apart(rows, need_far(r), places)


def is_pair(thing):
    """Tell of anything whether it is a tuple of a whole number and a list."""
    if not isinstance(thing, tuple) or len(thing) != 2:
        return False
    return is_whole(thing[0]) and isinstance(thing[1], list)


def need_places(k):
    """Tell how many places a paper for k ties has at least."""
    # k ties end at 2 k places, so near two of these places no tie ends.
    return 2 * k + 2


def need_far(r):
    """Tell how far any two places of a paper with r are at least."""
    return 2 * r + 1


def are_apart(rows, least, places):
    """Tell whether any two of the rising places are at least so far."""
    return all([rows[a][b] >= least for a in places for b in places if a < b])


def best_stay(web, k):
    """Tell the paper for k ties of the greatest r, of several the first list; None where none is."""
    rows = far_rows(web)
    need_number(0, MOST_STAY_TIES, k)
    need_number(1, MOST_PLACES_FOR_STAY, web[0])
    # No two places are farther than the farthest, so no greater r can be.
    for r in reversed(range((most_far(rows) + 1) // 2)):
        lists = apart_lists(rows, need_far(r), need_places(k))
        if lists:
            return (r, lists[0])
    return None


def apart_lists(rows, least, many):
    """Tell the rising lists of so many places, any two at least so far, as lists are."""
    # Longer lists are never the first: what stands ahead of the last place is a list too.
    lists = [[]]
    for again in range(many):
        lists = [places + [place] for places in lists for place in places_after(rows, least, places)]
    return lists


def places_after(rows, least, places):
    """Tell the places that go on the rising list, at least so far from all that are on it."""
    start = places[-1] + 1 if places else 0
    return [place for place in range(start, len(rows)) if all([rows[place][other] >= least for other in places])]
