"""What the tests make and know of webs, found the slow way and without the program."""

import random
from itertools import combinations

VAST = 10 ** 400

# Most ties by places and count, reckoned by hand from the groups' sizes.
MOST = (
    (1, 1, 0), (1, 2, 0), (1, VAST, 0), (2, 1, 0), (2, 2, 1), (2, 3, 1), (3, 2, 2), (3, 3, 3),
    (4, 2, 4), (4, 3, 5), (5, 2, 6), (5, 3, 8), (5, 4, 9), (5, 5, 10), (7, 3, 16), (10, 2, 25),
    (10, 3, 33), (10, 4, 37), (10, 9, 44), (59, 2, 870), (60, 1, 0), (60, 2, 900), (60, 3, 1200),
    (60, 4, 1350), (60, 7, 1542), (60, 31, 1741), (60, 59, 1769), (60, 60, 1770), (60, 61, 1770),
    (60, VAST, 1770),
)


def all_ties(places):
    return list(combinations(range(places), 2))


def all_webs(places):
    pairs = all_ties(places)
    for bits in range(2 ** len(pairs)):
        yield [pair for at, pair in enumerate(pairs) if bits >> at & 1]


def all_groupings(places):
    """Every way to hold each place just once in groups, rising, in one turn of the groups each."""
    if places == 0:
        yield []
        return
    last = places - 1
    for groups in all_groupings(last):
        for at in range(len(groups)):
            yield [group + [last] if at == to else list(group) for to, group in enumerate(groups)]
        yield [list(group) for group in groups] + [[last]]


def all_lists(places):
    """Every rising list of places, the empty one too."""
    for many in range(places + 1):
        for some in combinations(range(places), many):
            yield list(some)


def ties_between(groups):
    ties = []
    for group, other in combinations(groups, 2):
        ties.extend((min(a, b), max(a, b)) for a in group for b in other)
    return sorted(ties)


def even_groups(places, many):
    """As many groups as the count or as there are places, in each every so-manieth place."""
    groups = min(places, many)
    return [list(range(at, places, groups)) for at in range(groups)]


def rows_of(sizes):
    """Groups of these sizes, each of places that follow each other."""
    groups, at = [], 0
    for size in sizes:
        groups.append(list(range(at, at + size)))
        at += size
    return groups


def is_crowd(ties, some):
    return all(pair in ties for pair in combinations(some, 2))


def has_crowd(places, ties, many):
    return any(is_crowd(ties, some) for some in combinations(range(places), many))


def slow_most(places, many):
    """The most ties of all webs without a crowd of one more than the count, each web looked at."""
    return max(len(ties) for ties in all_webs(places) if not has_crowd(places, ties, many + 1))


def most_by_places(places, many):
    """The most ties, place by place: each is tied to those before it but for the ones of its group."""
    return sum(place - place // many for place in range(places))


def parting_of(places, ties):
    """Groups that part the web, or None where there are none."""
    held = set(ties)
    groups = []
    for place in range(places):
        for group in groups:
            if (group[0], place) not in held:
                group.append(place)
                break
        else:
            groups.append([place])
    return groups if ties_between(groups) == sorted(ties) else None


def due(places, ties, many):
    """The name of the answer that is to be told of this web and count."""
    most = most_by_places(places, many)
    if len(ties) < most:
        return "Spare"
    groups = parting_of(places, ties)
    if len(ties) > most or groups is None or len(groups) != min(places, many):
        return "Crowd"
    return "Full"


def renamed(places, ties, chance):
    """The same web with other places for its places and its ties in another turn."""
    names = list(range(places))
    chance.shuffle(names)
    ties = [(min(names[one], names[other]), max(names[one], names[other])) for one, other in ties]
    chance.shuffle(ties)
    return ties


def untied_of(places, ties):
    held = set(ties)
    return [pair for pair in all_ties(places) if pair not in held]


def changed_webs(places, ties, chance):
    """The web with one tie fewer, one more, and one exchanged for another pair, where these can be."""
    untied = untied_of(places, ties)
    if ties:
        gone = chance.choice(ties)
        yield [tie for tie in ties if tie != gone]
    if untied:
        yield ties + [chance.choice(untied)]
    if ties and untied:
        gone, come = chance.choice(ties), chance.choice(untied)
        yield [come if tie == gone else tie for tie in ties]


def some_sizes(places, chance):
    """Sizes of groups, of any number, that make up so many places."""
    sizes = []
    while sum(sizes) < places:
        sizes.append(chance.randint(1, places - sum(sizes)))
    return sizes


def tried_webs(places, chance):
    """Webs of so many places: none and all ties, groups alike and not, these with ties changed, and any ties."""
    yield []
    yield all_ties(places)
    parting = [even_groups(places, many) for many in (2, 3, 1 + places // 2)]
    parting.append(rows_of(some_sizes(places, chance)))
    for groups in parting:
        ties = renamed(places, ties_between(groups), chance)
        yield ties
        yield from changed_webs(places, ties, chance)
    for of_ten in (2, 5, 9):
        yield [tie for tie in renamed(places, all_ties(places), chance) if chance.randrange(10) < of_ten]


def tried_counts(places):
    """Counts of one, few, about half and about all of the places, and a very great one."""
    counts = {1, 2, 3, places // 2, places // 2 + 1, places - 1, places, places + 1, VAST}
    return sorted(many for many in counts if many >= 1)


def chance_of(seed):
    """Tests are to go the same way each time."""
    return random.Random(seed)
