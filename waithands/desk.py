"""A desk, at which a yard is asked by texts and answers by texts."""

from waithands.calming import CALM, calm
from waithands.curves import MOST_PAIRS
from waithands.errors import BadAsk, BadLoad, BadText, BadYard, NoName
from waithands.fewest import fewest
from waithands.leading import KEPT, least_bound, opened
from waithands.loads import load_of, load_text
from waithands.posts import hands_of
from waithands.texts import read_yard, yard_text
from waithands.words import ANY_NAME, ANY_WORD, MOST_UNITS, found_in, is_name
from waithands.yards import MOST_TOTAL, Yard

DONE = "done"
NO_ONWARD = "-"
LIMITS = (1, 600)


def asked_parts(text, shape):
    """The list of what a row tells where a shape asks for it."""
    found = found_in(text, shape)
    if found is None:
        raise BadAsk("this is not written as an ask")
    return found


def curve_of(text):
    """The curve that a word writes."""
    units = (0, MOST_UNITS)
    pairs = [found_in(pair, (units, units), "/") for pair in text.split(",")]
    if len(pairs) > MOST_PAIRS or None in pairs:
        raise BadAsk("this is not written as a curve")
    return tuple([tuple(pair) for pair in pairs])


def tell_beat(desk, text):
    """A beat, and what it told of each post."""
    many = len(text.split(" ")) // 2
    found = asked_parts(text, ("beat",) + (ANY_NAME, (0, MOST_UNITS)) * many)
    rows = desk.yard.beat(list(zip(found[0::2], found[1::2])))
    return ", ".join([f"{name} {come} {done} {away} {change}" for name, come, done, away, change in rows])


def tell_load(desk, text):
    """A beat for each of a load's, and how the post stands behind them."""
    word, blank, rest = text.partition(" ")
    name, blank, written = rest.partition(" ")
    for come in load_of(written):
        desk.yard.beat([(name, come)])
    stand = desk.yard.stand(name)
    return f"wait {stand[0]} hands {hands_of(stand)}"


def tell_change(desk, text):
    """Another post in the place of one."""
    row, feed, rows = text.partition("\n")
    name = asked_parts(row, ("change", ANY_NAME))[0]
    desk.yard.change(name, written_post(name, rows))
    return DONE


def written_post(name, rows):
    """The post of that name, which the rows of a change write."""
    try:
        posts = read_yard("\n".join([f"yard {MOST_TOTAL}", rows]))[1]
    except (BadText, BadYard):
        raise BadAsk("these rows can't stand in a yard's text") from None
    # An on can't stand there: no post is behind that it could name.
    if len(posts) > 1 or posts[0][0] != name:
        raise BadAsk("these rows are not those of this post alone")
    return posts[0][1]


def tell_lead(desk, text):
    """Another onward, or none."""
    name, word = asked_parts(text, ("lead", ANY_NAME, ANY_WORD))
    if word != NO_ONWARD and not is_name(word):
        raise BadAsk("the onward is no name")
    desk.yard.lead(name, None if word == NO_ONWARD else word)
    return DONE


def tell_stand(desk, text):
    """How a post stands."""
    name = asked_parts(text, ("stand", ANY_NAME))[0]
    wait, ready, called, since, rest, seen = desk.yard.stand(name)
    places = " ".join([str(many) for many in called])
    return f"wait {wait} ready {ready} called {places} since {since} rest {rest}"


def tell_counts(desk, text):
    """What came to a post, was done there and was sent away."""
    name = asked_parts(text, ("counts", ANY_NAME))[0]
    came, done, away = desk.yard.counts(name)
    return f"came {came} done {done} away {away}"


def tell_hands(desk, text):
    """How many hands all posts have together."""
    asked_parts(text, ("hands",))
    return str(desk.yard.hands())


def tell_yard(desk, text):
    """The yard's text as it is now."""
    asked_parts(text, ("yard",))
    return yard_text(desk.yard.total, desk.yard.rows())


def tell_keep(desk, text):
    """Keeps the yard as it stands."""
    word = asked_parts(text, ("keep", ANY_NAME))[0]
    desk.kept[word] = desk.yard.twin()
    return DONE


def tell_back(desk, text):
    """Lets the yard stand again as it was kept."""
    word = asked_parts(text, ("back", ANY_NAME))[0]
    if word not in desk.kept:
        raise BadAsk("nothing is kept under this word")
    # A twin again, so that what is kept can be gone back to as often as one likes.
    desk.yard = desk.kept[word].twin()
    return DONE


def tell_bound(desk, text):
    """The most that ever waits at a post, or that something is sent away."""
    name, word, limit = asked_parts(text, ("bound", ANY_NAME, ANY_WORD, LIMITS))
    bound, load = least_bound(desk.yard.post(name), desk.yard.stand(name), curve_of(word), limit)
    if bound is None:
        return f"none {load_text(load)}"
    return f"bound {bound} {load_text(load)}"


def tell_keeps(desk, text):
    """Whether a post keeps a bound."""
    shape = ("keeps", ANY_NAME, ANY_WORD, (0, MOST_UNITS), LIMITS)
    name, word, bound, limit = asked_parts(text, shape)
    how, shown = opened(desk.yard.post(name), desk.yard.stand(name), curve_of(word), bound, limit)
    return f"kept {len(shown)}" if how == KEPT else f"broken {load_text(shown)}"


def tell_calm(desk, text):
    """Whether a post's hands come to rest."""
    name, word, limit = asked_parts(text, ("calm", ANY_NAME, ANY_WORD, LIMITS))
    told = calm(desk.yard.post(name), desk.yard.stand(name), curve_of(word), limit)
    if told[0] == CALM:
        how, entries, worths = told
        most = max([max(row) for row in worths])
        return f"calm {len(entries)} {most}"
    how, load, come, length = told
    return f"swings {come} {length} {load_text(load)}"


def tell_fewest(desk, text):
    """How few hands are enough for a post to keep a bound."""
    shape = ("fewest", ANY_NAME, ANY_WORD, (0, MOST_UNITS), LIMITS)
    name, word, bound, limit = asked_parts(text, shape)
    many = fewest(desk.yard.post(name), curve_of(word), bound, limit)[0]
    return "none" if many is None else f"fewest {many}"


DEEDS = {
    "beat": tell_beat,
    "load": tell_load,
    "change": tell_change,
    "lead": tell_lead,
    "stand": tell_stand,
    "counts": tell_counts,
    "hands": tell_hands,
    "yard": tell_yard,
    "keep": tell_keep,
    "back": tell_back,
    "bound": tell_bound,
    "keeps": tell_keeps,
    "calm": tell_calm,
    "fewest": tell_fewest,
}


class Desk:
    """A yard, and the yards that are kept under a word."""

    def __init__(self, text):
        total, posts = read_yard(text)
        self.yard = Yard(total, posts)
        self.kept = {}

    def ask(self, text):
        """The text that is told of what is asked."""
        word = text.split(" ")[0]
        if word not in DEEDS:
            raise BadAsk("nothing is asked by this word")
        deed = DEEDS[word]
        try:
            return deed(self, text)
        except (NoName, BadLoad):
            raise BadAsk("this names no post, or twice the same, or has no load") from None
