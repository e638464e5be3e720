"""What a post is, and what a stand of one is."""

from waithands.words import EACH, MOST_HANDS, MOST_UNITS, OVER, UNDER, WHATS
from waithands.words import is_between, is_from, is_tuple_of

MOST_PACE = 10 ** 6
MOST_LATE = 4
MOST_EVERY = 6
MOST_REST = 9
MOST_RULES = 3
MOST_ROWS = 4
MOST_SPAN = 4

PLACES_CALLED = 5
MOST_SINCE = 5
TRIPLES_SEEN = 3


def is_post(thing):
    """Whether it is a post."""
    if not is_tuple_of(thing, 7):
        return False
    pace, room, hands, late, every, rests, rules = thing
    return (
        is_between(pace, 1, MOST_PACE)
        and is_between(room, 0, MOST_UNITS)
        and are_bounds_of_hands(hands)
        and is_between(late, 0, MOST_LATE)
        and is_between(every, 1, MOST_EVERY)
        and are_rests(rests)
        and are_rules(rules)
    )


def are_bounds_of_hands(thing):
    """Whether it is a pair (least, most) of hands."""
    if not is_tuple_of(thing, 2):
        return False
    least, most = thing
    return is_between(most, 0, MOST_HANDS) and is_between(least, 0, most)


def are_rests(thing):
    """Whether it is a pair (up, down) of rests."""
    if not is_tuple_of(thing, 2):
        return False
    return all([is_between(beats, 0, MOST_REST) for beats in thing])


def are_rules(thing):
    """Whether it is a tuple of none to three rules."""
    if not isinstance(thing, tuple) or len(thing) > MOST_RULES:
        return False
    return all([is_rule(rule) for rule in thing])


def is_rule(thing):
    """Whether it is a tuple of one to four rows."""
    if not isinstance(thing, tuple) or not 1 <= len(thing) <= MOST_ROWS:
        return False
    return all([is_row(row) for row in thing])


def is_row(thing):
    """Whether it is a row of a rule."""
    if not is_tuple_of(thing, 5):
        return False
    what, span, sign, number, step = thing
    if what not in WHATS or not is_between(span, 1, MOST_SPAN):
        return False
    if sign == EACH:
        return is_between(number, 1, MOST_UNITS) and is_between(step, 0, 0)
    if sign not in (OVER, UNDER) or not is_between(number, 0, MOST_UNITS):
        return False
    return is_between(step, -MOST_HANDS, MOST_HANDS) and step != 0


def is_stand(thing):
    """Whether it is a stand."""
    if not is_tuple_of(thing, 6):
        return False
    wait, ready, called, since, rest, seen = thing
    return (
        is_from(wait, 0)
        and are_hands(ready, called)
        and is_between(since, 0, MOST_SINCE)
        and is_between(rest, 0, MOST_REST)
        and is_tuple_of(seen, TRIPLES_SEEN)
        and all([are_counts(triple, len(WHATS)) for triple in seen])
    )


def are_hands(ready, called):
    """Whether these are a stand's hands, at most twelve together."""
    if not is_from(ready, 0) or not are_counts(called, PLACES_CALLED):
        return False
    return ready + sum(called) <= MOST_HANDS


def are_counts(thing, many):
    """Whether it is a tuple of so many numbers from 0 up."""
    if not is_tuple_of(thing, many):
        return False
    return all([is_from(number, 0) for number in thing])


def first_stand(post):
    """The stand at which a post begins: its least hands are ready, all else is 0."""
    least = post[2][0]
    nothing = (0, 0, 0)
    return (0, least, (0, 0, 0, 0, 0), 0, 0, (nothing, nothing, nothing))


def hands_of(stand):
    """How many hands a stand has, those that are ready and those that are called."""
    return stand[1] + sum(stand[2])
