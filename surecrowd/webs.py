"""Webs: what their places, crowds and groups are, and the most ties without a crowd of one more than told."""

from itertools import combinations


def is_whole(thing):
    """Whether this is a whole number."""
    # Python counts True and False among the integers; the document does not.
    return isinstance(thing, int) and not isinstance(thing, bool)


def is_place(places, thing):
    """Whether this is a place of a web of so many places."""
    return is_whole(thing) and 0 <= thing < places


def is_tie(places, thing):
    """Whether this is a pair of places, the lesser first."""
    if not isinstance(thing, tuple) or len(thing) != 2:
        return False
    low, high = thing
    return is_place(places, low) and is_place(places, high) and low < high


def are_ties(places, thing):
    """Whether this is a list of ties, none twice."""
    if not isinstance(thing, list):
        return False
    if not all([is_tie(places, tie) for tie in thing]):
        return False
    return len(set(thing)) == len(thing)


def are_rising(places, some):
    """Whether this is a list of places, one at least, each above the one before it."""
    if not isinstance(some, list) or not some:
        return False
    if not all([is_place(places, place) for place in some]):
        return False
    return all([low < high for low, high in zip(some, some[1:])])


def is_tied(ties, one, other):
    """Whether these two places are tied, in whatever turn they are named."""
    return (min(one, other), max(one, other)) in ties


def is_crowd(places, ties, some):
    """Whether this is a rising list of places any two of which are tied."""
    if not are_rising(places, some):
        return False
    held = set(ties)
    for pair in combinations(some, 2):
        if pair not in held:
            return False
    return True


def hold_each_once(places, groups):
    """Whether these are groups, rising, one place at least in each, that hold each place just once."""
    # A web has one place at least, so there is one group at least.
    if not isinstance(groups, list) or not groups:
        return False
    if not all([are_rising(places, group) for group in groups]):
        return False
    held = [place for group in groups for place in group]
    return sorted(held) == list(range(places))


def do_part(places, ties, groups):
    """Whether these are groups of the web, and just any two places of unlike groups are tied."""
    if not hold_each_once(places, groups):
        return False
    group_of = {place: at for at, group in enumerate(groups) for place in group}
    held = set(ties)
    for one, other in combinations(range(places), 2):
        apart = group_of[one] != group_of[other]
        if ((one, other) in held) != apart:
            return False
    return True


def are_even(groups):
    """Whether the sizes of these groups are alike or one apart."""
    sizes = [len(group) for group in groups]
    return max(sizes) - min(sizes) <= 1


def pairs_of(many):
    """How many pairs so many places have."""
    return many * (many - 1) // 2


def most_groups(places, many):
    """By how many groups the web with the most ties is parted."""
    return min(places, many)


def most_ties(places, many):
    """How many ties so many places can have at the most, without a crowd of one more than the count."""
    groups = most_groups(places, many)
    # Only beyond the limits, places or a count below 1: that is to be no error.
    if groups < 1:
        return 0
    size, larger = divmod(places, groups)
    # All pairs are tied there but those within a group.
    untied = larger * pairs_of(size + 1) + (groups - larger) * pairs_of(size)
    return pairs_of(places) - untied
