"""How few hands are enough for a post to keep a bound."""

from waithands.leading import KEPT, LIMIT, opened
from waithands.posts import first_stand


def with_most(post, many):
    """The post with so many most hands."""
    pace, room, hands, late, every, rests, rules = post
    return (pace, room, (hands[0], many), late, every, rests, rules)


def fewest(post, curve, bound, limit=LIMIT):
    """The triple of the fewest most hands that keep the bound, their entries, and a load that breaks each fewer.

    Where none keep it the hands and the entries are None.
    """
    least, most = post[2]
    loads = []
    for many in range(least, most + 1):
        how, shown = opened(with_most(post, many), first_stand(post), curve, bound, limit)
        if how == KEPT:
            return many, shown, loads
        loads.append(shown)
    return None, None, loads
