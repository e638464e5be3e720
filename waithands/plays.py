"""How a post goes under a load, and under a steady one for ever."""

from waithands.alike import lean
from waithands.beats import beat
from waithands.errors import TooLong


def played(post, stand, load):
    """The list of the tuples (done, away, change) of a load's beats."""
    told = []
    for come in load:
        stand, done, away, change = beat(post, stand, come)
        told.append((done, away, change))
    return told


def after(post, stand, load):
    """The stand behind a load's beats."""
    for come in load:
        stand = beat(post, stand, come)[0]
    return stand


def round_of(post, stand, come, most):
    """The pair (begin, length) of the round that a steady load leads into."""
    met = {}
    for many in range(most + 1):
        lean_stand = lean(post, stand)
        if lean_stand in met:
            begin = met[lean_stand]
            return begin, many - begin
        met[lean_stand] = many
        stand = beat(post, stand, come)[0]
    raise TooLong(f"no round within {most} beats")


def rests_at(post, stand, come, most):
    """The number of the first beat from which on a steady load brings no change, None where there is none."""
    begin, length = round_of(post, stand, come, most)
    changes = [row[2] for row in played(post, stand, [come] * (begin + length))]
    if any(changes[begin:]):
        return None
    return max([place + 1 for place, change in enumerate(changes) if change != 0], default=0)
