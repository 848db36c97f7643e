"""Of any web a crowd, its spare ties, or its groups."""

from itertools import combinations

from surecrowd.answers import Crowd, Full, Parted, Spare, Three
from surecrowd.refusing import refuse_many, refuse_web
from surecrowd.webs import most_ties


def tied_rows(places, ties):
    """For each place a row that holds, for each other, whether they are tied."""
    rows = [[False] * places for place in range(places)]
    for one, other in ties:
        rows[one][other] = True
        rows[other][one] = True
    return rows


def tied_among(rows, place, some):
    """Those of some places that this place is tied to."""
    return [other for other in some if rows[place][other]]


def untied_among(rows, place, some):
    """Those of some places that this place is not tied to: it is among them if it is one of them."""
    return [other for other in some if not rows[place][other]]


def most_tied(rows, some):
    """Of some places the one with the most ties to the rest of them, the first of several."""
    return max(some, key=lambda place: len(tied_among(rows, place, some)))


def peeled(places, ties):
    """A crowd of the web, and for each of its places a group: those left that it is not tied to."""
    rows = tied_rows(places, ties)
    crowd = []
    groups = []
    left = list(range(places))
    while left:
        place = most_tied(rows, left)
        crowd.append(place)
        groups.append(untied_among(rows, place, left))
        left = tied_among(rows, place, left)
    return crowd, groups


def told(places, ties, many):
    """Of a web and a count just one of three: its spare ties, the groups of a full web, or a crowd."""
    refuse_web(places, ties)
    refuse_many(many)
    fewer = most_ties(places, many) - len(ties)
    if fewer > 0:
        return Spare(fewer)
    # Within what was left, no place of a group has more ties than the one it was peeled with, and that one is
    # tied to just what is left behind the group. Added up: the web has no more ties than one that is parted by
    # these groups, and just as many only if they part it. So if they are no more than the count, this web, which
    # has the most ties or more, has just the most and is parted by them.
    crowd, groups = peeled(places, ties)
    if len(crowd) > many:
        return Crowd(sorted(crowd[:many + 1]))
    return Full(groups)


def parted(places, ties):
    """Of a web just one of two: groups that part it, or three places that bar them."""
    refuse_web(places, ties)
    rows = tied_rows(places, ties)
    untied = [untied_among(rows, place, list(range(places))) for place in range(places)]
    for third, some in enumerate(untied):
        for one, other in combinations(some, 2):
            if rows[one][other]:
                return Three(one, other, third)
    # Now all places of a group are untied to just that group: it is told once, for its first place.
    return Parted([group for place, group in enumerate(untied) if group[0] == place])
