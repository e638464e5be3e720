"""Whether hands come to rest, from all stands that loads lead to, under every steady load."""

from waithands.alike import lean
from waithands.beats import beat
from waithands.curves import least_rate
from waithands.leading import LIMIT, led, load_to

CALM = "calm"
SWINGS = "swings"


def calm(post, stand, curve, limit=LIMIT):
    """The triple ("calm", entries, worths), or ("swings", load, come, length) of a steady load without any rest."""
    entries = led(post, stand, curve, limit)
    stands = [entry[0] for entry in entries]
    all_worths = []
    for come in range(least_rate(curve) + 1):
        steps = steps_of(post, stands, come)
        worths = worths_of(steps)
        if None in worths:
            place = first_on_ring(steps, worths)
            return (SWINGS, load_to(entries, place), come, beats_back(steps, place))
        all_worths.append(worths)
    return (CALM, entries, all_worths)


def steps_of(post, stands, come):
    """For each place the pair of the first place whose stand a beat leads to, and of whether it has a change."""
    firsts = {}
    for place, stand in enumerate(stands):
        firsts.setdefault(stand, place)
    steps = []
    for stand in stands:
        behind, done, away, change = beat(post, stand, come)
        # As much as the least rate may always come, so this stand is among those that loads lead to.
        steps.append((firsts[lean(post, behind)], change != 0))
    return steps


def worths_of(steps):
    """The list of each place's worth, None where changes never end."""
    worths = {}
    for place in range(len(steps)):
        settle(steps, worths, place)
    return [worths[place] for place in range(len(steps))]


def settle(steps, worths, place):
    """Gives their worths to all places that are met from that one on."""
    way = []
    while place not in worths and place not in way:
        way.append(place)
        place = steps[place][0]
    if place not in worths:
        begin = way.index(place)
        settle_ring(steps, worths, way[begin:])
        way = way[:begin]
    for at in reversed(way):
        behind, changes = steps[at]
        worths[at] = worth_ahead(worths[behind], changes)


def settle_ring(steps, worths, ring):
    """Gives their worths to places that go round for ever."""
    swings = any([steps[at][1] for at in ring])
    for at in ring:
        worths[at] = None if swings else 0


def worth_ahead(worth, changes):
    """The worth one beat ahead of this one, by whether that beat has a change."""
    if worth is None:
        return None
    return worth + 1 if worth > 0 or changes else 0


def first_on_ring(steps, worths):
    """The first place that is led back to, among those without a worth."""
    back = [place for place, worth in enumerate(worths) if worth is None and beats_back(steps, place) is not None]
    return back[0]


def beats_back(steps, place):
    """The fewest beats that lead back to a place, None where none do."""
    at = place
    for many in range(1, len(steps) + 1):
        at = steps[at][0]
        if at == place:
            return many
    return None
