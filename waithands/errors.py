"""The refusals, each a class of its own straight under HandError."""


class HandError(ValueError):
    """What all refusals stand under."""


class BadLoad(HandError):
    """A load's text is not written as a load, or has too many beats."""


class Beyond(HandError):
    """More comes than a curve lets come."""


class BadYard(HandError):
    """Names, onwards, hands or stands that can't make a yard."""


class NoName(HandError):
    """A name that is no post's, or that stands twice."""


class TooLong(HandError):
    """No round within the beats that were given."""


class TooWide(HandError):
    """More units may come in a beat than are tried one by one."""


class TooMany(HandError):
    """More entries than the limit."""


class BadAsk(HandError):
    """What is asked at a desk is not written as told, or names what isn't there."""


class BadText(HandError):
    """A yard's text is wrong at a row, numbered from 0."""

    def __init__(self, row):
        self.row = row
