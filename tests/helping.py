"""What the tests make and know of webs, found the slow way and without the program."""

from itertools import combinations


def all_ties(places):
    return list(combinations(range(places), 2))


def all_webs(places):
    pairs = all_ties(places)
    for bits in range(2 ** len(pairs)):
        yield [pair for at, pair in enumerate(pairs) if bits >> at & 1]


def all_groupings(places):
    """Every way to hold each place just once in groups, rising, in one turn of the groups each."""
    if places == 0:
        yield []
        return
    last = places - 1
    for groups in all_groupings(last):
        for at in range(len(groups)):
            yield [group + [last] if at == to else list(group) for to, group in enumerate(groups)]
        yield [list(group) for group in groups] + [[last]]


def all_lists(places):
    """Every rising list of places, the empty one too."""
    for many in range(places + 1):
        for some in combinations(range(places), many):
            yield list(some)


def ties_between(groups):
    ties = []
    for group, other in combinations(groups, 2):
        ties.extend((min(a, b), max(a, b)) for a in group for b in other)
    return sorted(ties)


def even_groups(places, many):
    """As many groups as the count or as there are places, in each every so-manieth place."""
    groups = min(places, many)
    return [list(range(at, places, groups)) for at in range(groups)]


def rows_of(sizes):
    """Groups of these sizes, each of places that follow each other."""
    groups, at = [], 0
    for size in sizes:
        groups.append(list(range(at, at + size)))
        at += size
    return groups


def is_crowd(ties, some):
    return all(pair in ties for pair in combinations(some, 2))


def has_crowd(places, ties, many):
    return any(is_crowd(ties, some) for some in combinations(range(places), many))


def slow_most(places, many):
    """The most ties of all webs without a crowd of one more than the count, each web looked at."""
    return max(len(ties) for ties in all_webs(places) if not has_crowd(places, ties, many + 1))
