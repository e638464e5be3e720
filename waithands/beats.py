"""How a post goes on by a beat."""

from waithands.judging import wish
from waithands.posts import TRIPLES_SEEN, hands_of
from waithands.words import MOST_HANDS


def beat(post, stand, come, free=MOST_HANDS):
    """The tuple (stand, done, away, change) of a beat in which come units come and free hands more may be called."""
    pace, room = post[:2]
    wait, ready, called, since, rest, seen = stand
    ready += called[0]
    called = called[1:] + (0,)
    taken = min(come, max(room - wait, 0))
    wait += taken
    done = min(wait, ready * pace)
    wait -= done
    newest = ((come, done, wait),) + seen
    since, looks = since_and_look(post, since, rest)
    moved = (wait, ready, called, since, max(rest - 1, 0), newest[:TRIPLES_SEEN])
    change = change_of(post, hands_of(moved), newest, free) if looks else 0
    return with_change(post, moved, change), done, come - taken, change


def since_and_look(post, since, rest):
    """The pair of since behind the beat and of whether the post looks."""
    every = post[4]
    if since + 1 < every:
        return since + 1, False
    return 0, rest == 0


def change_of(post, hands, newest, free):
    """How many hands more a post that looks calls, or, below 0, sends home."""
    return min(wish(post, hands, newest) - hands, free)


def with_change(post, stand, change):
    """The stand with so many hands called or, below 0, sent home, and the rest that this begins."""
    if change == 0:
        return stand
    late, rests = post[3], post[5]
    wait, ready, called, since, rest, seen = stand
    if change > 0:
        called = called[:late] + (called[late] + change,) + called[late + 1:]
        rest = rests[0]
    else:
        ready, called = sent_home(ready, called, -change)
        rest = rests[1]
    return (wait, ready, called, since, rest, seen)


def sent_home(ready, called, many):
    """The pair (ready, called) without so many hands, those called latest gone first."""
    left = list(called)
    for place in reversed(range(len(left))):
        gone = min(left[place], many)
        left[place] -= gone
        many -= gone
    return ready - many, tuple(left)
