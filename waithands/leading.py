"""All stands that the loads within a curve lead to, and whether what waits stays within a bound."""

from waithands.alike import lean
from waithands.beats import beat
from waithands.curves import bursts_of, most_next, spares_left
from waithands.errors import TooMany, TooWide

LIMIT = 300
MOST_COME = 23
KEPT = "kept"
BROKEN = "broken"


def led(post, stand, curve, limit=LIMIT):
    """The list of all entries (stand, spare, from, come) that loads within a curve lead to."""
    return walked(post, stand, curve, None, limit)[0]


def opened(post, stand, curve, bound, limit=LIMIT):
    """The pair ("kept", entries), or ("broken", load) with the shortest load that breaks the bound."""
    entries, load = walked(post, stand, curve, bound, limit)
    return (KEPT, entries) if load is None else (BROKEN, load)


def least_bound(post, stand, curve, limit=LIMIT):
    """The pair of the most that waits and of the load that leads to it, or of None and one that sends away."""
    entries = led(post, stand, curve, limit)
    waits = [entry[0][0] for entry in entries]
    bound = max(waits)
    # No more than that ever waits, so a beat breaks this bound only by what it sends away.
    how, shown = opened(post, stand, curve, bound, limit)
    if how == BROKEN:
        return None, shown
    return bound, load_to(entries, waits.index(bound))


def walked(post, stand, curve, bound, limit):
    """The pair of the entries and of the first load that breaks the bound, None where none does.

    Without a bound nothing breaks. Where one is broken the entries are those met so far.
    """
    if is_too_wide(curve):
        raise TooWide(f"more than {MOST_COME} units may come in a beat")
    entries = [first_entry(post, stand, curve)]
    met = set()
    met.add(entries[0][:2])
    place = 0
    # Entries and comes in order: so the first load that leads somewhere is the shortest, and of these the least.
    while place < len(entries):
        for come in comes_next(curve, entries[place]):
            behind, spare, away = led_to(post, curve, entries[place], come)
            if bound is not None and breaks(bound, behind, away):
                return entries, load_to(entries, place) + [come]
            if (behind, spare) not in met:
                check_room(entries, limit)
                met.add((behind, spare))
                entries.append((behind, spare, place, come))
        place += 1
    return entries, None


def is_too_wide(curve):
    """Whether more may come in a beat than is tried unit by unit."""
    return most_next(curve, bursts_of(curve)) > MOST_COME


def first_entry(post, stand, curve):
    """The entry at which all begins."""
    return (lean(post, stand), bursts_of(curve), None, None)


def comes_next(curve, entry):
    """The list of all that may come next, from 0 up."""
    return list(range(most_next(curve, entry[1]) + 1))


def led_to(post, curve, entry, come):
    """The triple of the lean stand and the spares that a beat from an entry leads to, and of what is sent away."""
    behind, done, away, change = beat(post, entry[0], come)
    return lean(post, behind), spares_left(curve, entry[1], come), away


def breaks(bound, behind, away):
    """Whether a beat breaks the bound, by the stand behind it and what is sent away."""
    return behind[0] > bound or away > 0


def check_room(entries, limit):
    """Refuses an entry more than the limit."""
    if len(entries) >= limit:
        raise TooMany(f"more than {limit} entries")


def load_to(entries, place):
    """The load that led to the entry at that place."""
    load = []
    came_from, come = entries[place][2:]
    while come is not None:
        load.append(come)
        came_from, come = entries[came_from][2:]
    return load[::-1]
