"""What is handed in and is none of what it should be, refused."""

from surecrowd.errors import BadMany, BadPlaces, BadTies
from surecrowd.webs import are_ties, is_whole

# A web has no more places than these; only the most ties are told of more.
WEB_PLACES = 60


def refuse_places(places):
    """Refuse what is no whole number from 1 on."""
    if not is_whole(places) or places < 1:
        raise BadPlaces("places are a whole number from 1 on")


def refuse_web_places(places):
    """Refuse what is no number of places of a web."""
    refuse_places(places)
    if places > WEB_PLACES:
        raise BadPlaces("a web does not have so many places")


def refuse_web(places, ties):
    """Refuse places and ties that are no web."""
    refuse_web_places(places)
    if not are_ties(places, ties):
        raise BadTies("ties are a list of pairs of places, the lesser first, none twice")


def refuse_many(many):
    """Refuse what is no count."""
    if not is_whole(many) or many < 1:
        raise BadMany("a count is a whole number from 1 on")
