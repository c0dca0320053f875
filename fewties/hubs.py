"""Hubs of a joined web, and ties put from the first of them."""

from fewties.farthest import far_rows, farthest_two
from fewties.putin import with_ties
from fewties.webs import need_number

MOST_HUB_TIES = 20


def hubs_for(web, k):
    """Tell how wide the hubs for k ties see, and the hubs in the order chosen."""
    rows = far_rows(web)
    need_number(0, MOST_HUB_TIES, k)
    hubs = [0]
    near = rows[0]
    # Only a hub is 0 far from the nearest hub, so at 0 every place is one.
    while len(hubs) <= k and max(near) > 0:
        hub = near.index(max(near))
        hubs.append(hub)
        near = [min(far, other) for far, other in zip(near, rows[hub])]
    return (max(near), hubs)


def hub_ties(web, k):
    """Tell the ties put from the first hub to the others, and how far the farthest places are with them."""
    first, *others = hubs_for(web, k)[1]
    # The first hub is place 0, so it is the lesser place of each tie.
    ties = [(first, hub) for hub in sorted(others) if (first, hub) not in web[1]]
    return (ties, farthest_two(with_ties(web, ties))[0])
