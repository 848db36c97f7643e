"""The answers: what is told of a web, and of each whether it is so."""

from surecrowd.webs import are_even, do_part, is_crowd, is_place, is_tied, is_whole, most_groups, most_ties


def copied(thing):
    """The thing itself or, of a list, a copy, of the lists within it, too."""
    if not isinstance(thing, list):
        return thing
    return [copied(inner) for inner in thing]


class Answer:
    """What is told of a web."""


class Crowd(Answer):
    """A crowd of one more place than the count."""

    def __init__(self, some):
        self.some = copied(some)

    def shows(self, places, ties, many):
        """Whether the places are a crowd of this web, rising, of one more than the count."""
        return is_crowd(places, ties, self.some) and len(self.some) == many + 1


class Full(Answer):
    """The groups of a web that has the most ties without a crowd of one more than the count."""

    def __init__(self, groups):
        self.groups = copied(groups)

    def shows(self, places, ties, many):
        """Whether the groups part this web, as many as the web with the most ties has, and as even."""
        if not do_part(places, ties, self.groups):
            return False
        # A web so parted has the most ties: they need no count of their own.
        return len(self.groups) == most_groups(places, many) and are_even(self.groups)


class Spare(Answer):
    """How many ties fewer a web has than the most without a crowd of one more than the count."""

    def __init__(self, ties):
        self.ties = copied(ties)

    def shows(self, places, ties, many):
        """Whether this web has just so many ties fewer than the most, one at least."""
        if not is_whole(self.ties) or self.ties < 1:
            return False
        return self.ties == most_ties(places, many) - len(ties)


class Parted(Answer):
    """Groups that part a web."""

    def __init__(self, groups):
        self.groups = copied(groups)

    def shows(self, places, ties):
        """Whether just any two places of unlike groups are tied in this web."""
        return do_part(places, ties, self.groups)


class Three(Answer):
    """Three places that no groups can part: two tied, and a third tied to neither."""

    def __init__(self, one, other, third):
        self.one = copied(one)
        self.other = copied(other)
        self.third = copied(third)

    def shows(self, places, ties):
        """Whether these are three unlike places, the first two tied and the third tied to neither."""
        trio = [self.one, self.other, self.third]
        if not all([is_place(places, place) for place in trio]):
            return False
        # Two places alike fall out by their ties: none is tied to itself, and the first two must be tied.
        if not is_tied(ties, self.one, self.other):
            return False
        return not is_tied(ties, self.one, self.third) and not is_tied(ties, self.other, self.third)
