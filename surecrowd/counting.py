"""The most ties that places can have without a crowd of one more than the count, and a web that has them."""

from itertools import combinations

from surecrowd.refusing import refuse_many, refuse_places, refuse_web_places
from surecrowd.webs import most_groups, most_ties


def most(places, many):
    """How many ties a web of so many places can have at the most, without a crowd of one more than the count."""
    refuse_places(places)
    refuse_many(many)
    return most_ties(places, many)


def fullest(places, many):
    """The ties of a web of so many places that has the most."""
    refuse_web_places(places)
    refuse_many(many)
    groups = most_groups(places, many)
    # Places dealt to the groups in turn leave the groups' sizes alike or one apart.
    return [(one, other) for one, other in combinations(range(places), 2) if one % groups != other % groups]
