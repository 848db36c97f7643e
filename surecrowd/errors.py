"""The refusals: one class for each kind of thing that is handed in and is none."""


class CrowdError(ValueError):
    """Something handed in is refused."""


class BadPlaces(CrowdError):
    """What should be a number of places is none."""


class BadTies(CrowdError):
    """What should be the ties of a web are none."""


class BadMany(CrowdError):
    """What should be a count is none."""
