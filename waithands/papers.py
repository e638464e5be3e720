"""Papers: whether a thing shows what is told of bounds, of rest and swing, and of the fewest hands."""

from waithands.alike import alike, lean
from waithands.beats import beat
from waithands.curves import least_rate, most_next, spares_left, within
from waithands.fewest import with_most
from waithands.leading import breaks, comes_next, first_entry, is_too_wide, led_to
from waithands.plays import after, played
from waithands.posts import are_counts, first_stand, is_stand
from waithands.words import is_between, is_from, is_tuple_of

MOST_BEATS_SHOWN = 600
MOST_LENGTH = 1000


def shows_kept(post, stand, curve, bound, thing):
    """Whether it is a list of entries that nothing leads out of, and no beat from them breaks the bound."""
    return are_entries(post, stand, curve, thing) and all([keeps(post, curve, bound, entry) for entry in thing])


def shows_broken(post, stand, curve, bound, thing):
    """Whether it is a load within the curve whose last beat breaks the bound."""
    if not is_load(thing, 1) or not within(curve, thing):
        return False
    behind, done, away, change = beat(post, after(post, stand, thing[:-1]), thing[-1])
    return breaks(bound, behind, away)


def shows_calm(post, stand, curve, thing):
    """Whether it is a pair of entries that nothing leads out of, and of worths that fall under each steady load."""
    if not is_tuple_of(thing, 2):
        return False
    entries, worths = thing
    if not are_entries(post, stand, curve, entries) or not are_worths(worths, least_rate(curve) + 1, len(entries)):
        return False
    return all([worths_fall(post, curve, entries, come, row) for come, row in enumerate(worths)])


def shows_swing(post, stand, curve, thing):
    """Whether it is a triple (load, come, length): behind the load, length beats lead back with a change."""
    if not is_tuple_of(thing, 3):
        return False
    load, come, length = thing
    if not is_load(load, 0) or not within(curve, load):
        return False
    if not is_between(come, 0, least_rate(curve)) or not is_between(length, 1, MOST_LENGTH):
        return False
    there = after(post, stand, load)
    steady = [come] * length
    changes = [change for done, away, change in played(post, there, steady)]
    return any(changes) and alike(post, there, after(post, there, steady))


def shows_fewest(post, curve, bound, thing):
    """Whether it is a triple (many, entries, loads): so many hands keep the bound, and each fewer doesn't."""
    if is_too_wide(curve) or not is_tuple_of(thing, 3):
        return False
    many, entries, loads = thing
    least, most = post[2]
    if many is None and entries is None:
        return are_broken(post, curve, bound, list(range(least, most + 1)), loads)
    if not is_between(many, least, most):
        return False
    if not shows_kept(with_most(post, many), first_stand(post), curve, bound, entries):
        return False
    return are_broken(post, curve, bound, list(range(least, many)), loads)


def are_broken(post, curve, bound, manies, thing):
    """Whether it is a list of one load for each of these most hands, each of which shows that they don't keep it."""
    if not isinstance(thing, list) or len(thing) != len(manies):
        return False
    stand = first_stand(post)
    pairs = list(zip(manies, thing))
    return all([shows_broken(with_most(post, many), stand, curve, bound, load) for many, load in pairs])


def is_load(thing, least):
    """Whether it is a list of at least so many numbers from 0 up."""
    if not isinstance(thing, list) or not least <= len(thing) <= MOST_BEATS_SHOWN:
        return False
    return all([is_from(come, 0) for come in thing])


def are_entries(post, stand, curve, thing):
    """Whether it is a list of entries, in any order, that nothing leads out of, whatever breaks."""
    if is_too_wide(curve) or not isinstance(thing, list) or not thing:
        return False
    if not all([is_like_entry(entry, len(curve)) for entry in thing]):
        return False
    if thing[0] != first_entry(post, stand, curve):
        return False
    # Asked ahead of what leads on: of an entry that nothing leads to, its spares let anything come.
    if not all([is_led_to(post, curve, thing, place) for place in range(1, len(thing))]):
        return False
    places = places_of(thing)
    return len(places) == len(thing) and all([stays_in(post, curve, places, entry) for entry in thing])


def is_like_entry(thing, pairs):
    """Whether it is a tuple of a stand, spares for so many pairs, and two things more."""
    return is_tuple_of(thing, 4) and is_stand(thing[0]) and are_counts(thing[1], pairs)


def is_led_to(post, curve, entries, place):
    """Whether a beat leads to the entry at that place, from one ahead of it, as it says."""
    came_from, come = entries[place][2:]
    if not is_between(came_from, 0, place - 1):
        return False
    ahead = entries[came_from]
    if not is_between(come, 0, most_next(curve, ahead[1])):
        return False
    return led_to(post, curve, ahead, come)[:2] == entries[place][:2]


def places_of(entries):
    """The dict of each entry's place by its stand and spares."""
    return {entry[:2]: place for place, entry in enumerate(entries)}


def stays_in(post, curve, places, entry):
    """Whether all that may come leads from an entry to one that has a place."""
    return all([led_to(post, curve, entry, come)[:2] in places for come in comes_next(curve, entry)])


def keeps(post, curve, bound, entry):
    """Whether no beat from an entry breaks the bound."""
    beats = [led_to(post, curve, entry, come) for come in comes_next(curve, entry)]
    return not any([breaks(bound, behind, away) for behind, spare, away in beats])


def are_worths(thing, comes, many):
    """Whether it is a list, for so many comes, of lists of so many numbers from 0 up."""
    if not isinstance(thing, list) or len(thing) != comes:
        return False
    return all([are_worths_of_one(row, many) for row in thing])


def are_worths_of_one(thing, many):
    """Whether it is a list of so many numbers from 0 up."""
    if not isinstance(thing, list) or len(thing) != many:
        return False
    return all([is_from(worth, 0) for worth in thing])


def worths_fall(post, curve, entries, come, worths):
    """Whether each worth falls by a beat with come, or is 0 and stays so without a change."""
    places = places_of(entries)
    for (stand, spare, came_from, came), worth in zip(entries, worths):
        behind, done, away, change = beat(post, stand, come)
        worth_behind = worths[places[(lean(post, behind), spares_left(curve, spare, come))]]
        if worth == 0 and (change != 0 or worth_behind != 0):
            return False
        if worth > 0 and worth_behind >= worth:
            return False
    return True
