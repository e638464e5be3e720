"""Which stands of a post are alike: those that differ only where its rules never look."""

from waithands.words import WHATS


def needed(post):
    """The triple, for come, done and wait, of how many triples ahead of the newest one the rows look at."""
    rows = [row for rule in post[6] for row in rule]
    return tuple([most_ahead(rows, what) for what in WHATS])


def most_ahead(rows, what):
    """How many triples ahead of the newest one the rows of that what look at."""
    return max([row[1] - 1 for row in rows if row[0] == what], default=0)


def lean(post, stand):
    """The stand without what no later beat goes by."""
    wait, ready, called, since, rest, seen = stand
    wants = needed(post)
    lean_seen = tuple([lean_triple(triple, place, wants) for place, triple in enumerate(seen)])
    # The post looks as soon as since is every or more, by how much is all the same.
    return (wait, ready, called, min(since, post[4] - 1), rest, lean_seen)


def lean_triple(triple, place, wants):
    """The triple at that place of seen, with 0 for each number that isn't wanted so far back."""
    return tuple([number if want > place else 0 for number, want in zip(triple, wants)])


def alike(post, one, other):
    """Whether two stands differ only where nothing is needed."""
    return lean(post, one) == lean(post, other)
