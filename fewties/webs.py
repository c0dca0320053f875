"""Webs: what one is, how far its places are, and the shortest ways."""

from fewties.errors import NoNumber, NoPlace

MOST_PLACES = 60


def is_whole(thing):
    """Tell of anything whether it is a whole number."""
    # Python counts True and False among the ints.
    return isinstance(thing, int) and not isinstance(thing, bool)


def is_between(least, most, thing):
    """Tell of anything whether it is a whole number from least to most."""
    return is_whole(thing) and least <= thing <= most


def need_number(least, most, thing):
    """Refuse what is no whole number from least to most."""
    if not is_between(least, most, thing):
        raise NoNumber("this is no number that is taken here")


def is_place(n, thing):
    """Tell of anything whether it is one of n places."""
    return is_between(0, n - 1, thing)


def is_tie(n, thing):
    """Tell of anything whether it is a tie of two of n places, the lesser first."""
    if not isinstance(thing, tuple) or len(thing) != 2:
        return False
    a, b = thing
    return is_place(n, a) and is_place(n, b) and a < b


def are_ties(n, thing):
    """Tell of anything whether it is a list of ties of n places, in any order."""
    return isinstance(thing, list) and all([is_tie(n, tie) for tie in thing])


def is_rising(things):
    """Tell of a list of things of one kind whether each is greater than the one ahead of it."""
    return all([things[at] < things[at + 1] for at in range(len(things) - 1)])


def is_web(thing):
    """Tell of anything whether it is a web."""
    if not isinstance(thing, tuple) or len(thing) != 2:
        return False
    n, ties = thing
    # The ties are compared only when all are ties: things of other kinds may not compare.
    return is_between(1, MOST_PLACES, n) and are_ties(n, ties) and is_rising(ties)


def tied_places(web):
    """Tell for each place the list of the places that are tied to it."""
    n, ties = web
    tied = [[] for place in range(n)]
    for a, b in ties:
        tied[a].append(b)
        tied[b].append(a)
    return tied


def far_from(tied, start):
    """Tell how far each place is from start, by what tied_places tells."""
    far = [None] * len(tied)
    far[start] = 0
    edge = [start]
    while edge:
        beyond = []
        for place in edge:
            for other in tied[place]:
                if far[other] is None:
                    far[other] = far[place] + 1
                    beyond.append(other)
        edge = beyond
    return far


def need_place(web, thing):
    """Refuse what is no place of the web."""
    if not is_place(web[0], thing):
        raise NoPlace("this is no place of the web")


def all_far(web, a):
    """Tell how far each place is from a, None where no ties lead."""
    need_place(web, a)
    return far_from(tied_places(web), a)


def how_far(web, a, b):
    """Tell how far a and b are from one another, None where no ties lead."""
    need_place(web, a)
    need_place(web, b)
    return all_far(web, a)[b]


def is_joined(web):
    """Tell whether ties lead from each place to each other one."""
    # Ties lead both ways, so what place 0 comes to comes to one another through it.
    return None not in all_far(web, 0)


def short_way(web, a, b):
    """Tell the first shortest way from a to b, None where no ties lead."""
    need_place(web, a)
    need_place(web, b)
    tied = tied_places(web)
    far = far_from(tied, b)
    if far[a] is None:
        return None
    way = [a]
    while way[-1] != b:
        # All shortest ways are of one length, so the least next place makes the first list.
        here = way[-1]
        way.append(min([place for place in tied[here] if far[place] == far[here] - 1]))
    return way
