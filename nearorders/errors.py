"""The refusals: each kind of failure has a class of its own, straight under NearError."""


class NearError(ValueError):
    """Any refusal."""


class NoOrder(NearError):
    """What was handed in as an order is none."""


class NoNumber(NearError):
    """A number is none, or not within the limits told for it."""


class NoPairs(NearError):
    """What was handed in as a list of pairs is none."""


class Round(NearError):
    """Pairs lead from a thing to itself."""


class NoThing(NearError):
    """What was handed in as a thing of an order is none."""


class NoRow(NearError):
    """What was handed in as a row of an order is none."""


class NoSeating(NearError):
    """What was handed in as a seating of an order is none."""


class NoRing(NearError):
    """What was handed in as a ring of an order is none."""


class NoSizes(NearError):
    """What was handed in as sizes is none."""


class TooMany(NearError):
    """There would be more things than an order may have."""


class TooFew(NearError):
    """There would be fewer things than an order must have."""


class NoText(NearError):
    """A text does not write an order."""


class NoLine(NearError):
    """A line is none that a desk knows."""


class NoDeed(NearError):
    """No deed stands that could be undone."""
