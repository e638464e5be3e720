"""Curves, which bound what may come in stretches of beats."""

from waithands.errors import Beyond

MOST_PAIRS = 3


def within(curve, load):
    """Whether a load is within a curve."""
    return spares_behind(curve, load) is not None


def spares(curve, load):
    """How much each pair leaves to spare behind a load."""
    spare = spares_behind(curve, load)
    if spare is None:
        raise Beyond("the load is not within the curve")
    return spare


def spares_behind(curve, load):
    """The spares behind a load, None where it is not within the curve."""
    spare = bursts_of(curve)
    for come in load:
        if come > most_next(curve, spare):
            return None
        spare = spares_left(curve, spare, come)
    return spare


def bursts_of(curve):
    """The tuple of all bursts: the spares ahead of any beat."""
    return tuple([burst for burst, rate in curve])


def least_rate(curve):
    """The least of all rates: so much may come at every beat."""
    return min([rate for burst, rate in curve])


def most_next(curve, spare):
    """How much may come next at most."""
    return min([rate + left for (burst, rate), left in zip(curve, spare)])


def spares_next(curve, spare, come):
    """The spares one beat later, in which come units come."""
    if come > most_next(curve, spare):
        raise Beyond("more comes than may come")
    return spares_left(curve, spare, come)


def spares_left(curve, spare, come):
    """The spares behind a beat with what may come."""
    # A stretch that ends with this beat is one that ended ahead of it and goes on, or begins here anew:
    # the least of all of them is the spare so far, at most the burst, with this beat's rate.
    return tuple([min(burst, left + rate - come) for (burst, rate), left in zip(curve, spare)])


def least_bursts(load, rates):
    """The curve of these rates, each with the least burst such that the load is within it."""
    return tuple([(least_burst(load, rate), rate) for rate in rates])


def least_burst(load, rate):
    """The most by which a stretch of the load is above its rate, 0 at the least."""
    most = 0
    above = 0
    for come in load:
        above = max(above + come - rate, 0)
        most = max(most, above)
    return most
