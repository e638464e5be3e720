"""The text of a yard, and what is read from one."""

from waithands.errors import BadText
from waithands.posts import MOST_EVERY, MOST_LATE, MOST_PACE, MOST_REST, MOST_ROWS, MOST_RULES, MOST_SPAN
from waithands.words import ANY_NAME, EACH, MOST_HANDS, MOST_UNITS, OVER, UNDER, WHATS, found_in
from waithands.yards import MOST_POSTS, MOST_TOTAL, check_posts

RULE = "rule"
MORE = "more"
FEWER = "fewer"


def yard_text(total, posts):
    """The text of a yard with so many hands and these posts."""
    rows = [f"yard {total}"]
    for name, post, onward in posts:
        rows.append(head_text(name, post))
        if onward is not None:
            rows.append(f"on {onward}")
        rows.extend(post_rows(post))
    return "\n".join(rows)


def head_text(name, post):
    """The row of a post's name and of all that it has beside its rules."""
    pace, room, (least, most), late, every, (up, down), rules = post
    work = f"pace {pace} room {room} hands {least} {most}"
    return f"post {name} {work} late {late} every {every} rests {up} {down}"


def post_rows(post):
    """The list of the rows that write a post's rules."""
    rows = []
    for rule in post[6]:
        rows.append(RULE)
        rows.extend([row_text(row) for row in rule])
    return rows


def row_text(row):
    """The text of a row of a rule."""
    what, span, sign, number, step = row
    looks = f"{what} {sign} {number} in {span}"
    if sign == EACH:
        return looks
    return f"{looks} {MORE if step > 0 else FEWER} {abs(step)}"


def read_yard(text):
    """The pair of a yard's hands and its posts."""
    rows = text.split("\n")
    found = found_in(rows[0], ("yard", (0, MOST_TOTAL)))
    if found is None:
        raise BadText(0)
    total = found[0]
    posts = []
    at = 1
    while at < len(rows) or not posts:
        if len(posts) == MOST_POSTS:
            raise BadText(at)
        named, at = read_post(rows, at)
        posts.append(named)
    check_posts(total, posts)
    return total, posts


def read_post(rows, at):
    """The pair of the tuple (name, post, onward) that is written from that row on, and of the row behind it."""
    head = head_of(row_at(rows, at))
    if head is None:
        raise BadText(at)
    name, parts = head
    at += 1
    onward = onward_of(row_at(rows, at))
    if onward is not None:
        at += 1
    rules, at = read_rules(rows, at)
    return (name, parts + (rules,), onward), at


def row_at(rows, at):
    """The row there; behind the last one a row without a word, which can stand nowhere."""
    return rows[at] if at < len(rows) else ""


def head_of(row):
    """The pair of a post's name and of all that it has ahead of its rules, None where the row writes none."""
    hands = (0, MOST_HANDS)
    rests = (0, MOST_REST)
    work = ("pace", (1, MOST_PACE), "room", (0, MOST_UNITS), "hands", hands, hands)
    times = ("late", (0, MOST_LATE), "every", (1, MOST_EVERY), "rests", rests, rests)
    found = found_in(row, ("post", ANY_NAME) + work + times)
    if found is None:
        return None
    name, pace, room, least, most, late, every, up, down = found
    if least > most:
        return None
    return name, (pace, room, (least, most), late, every, (up, down))


def onward_of(row):
    """The onward that a row writes, None where it writes none."""
    found = found_in(row, ("on", ANY_NAME))
    return None if found is None else found[0]


def read_rules(rows, at):
    """The pair of the rules that are written from that row on, and of the row behind them."""
    rules = []
    while len(rules) < MOST_RULES and row_at(rows, at) == RULE:
        rule, at = read_rule(rows, at + 1)
        rules.append(rule)
    return tuple(rules), at


def read_rule(rows, at):
    """The pair of the rule whose rows are written from that row on, and of the row behind it."""
    rule = []
    row = row_of(row_at(rows, at))
    while len(rule) < MOST_ROWS and row is not None:
        rule.append(row)
        row = row_of(row_at(rows, at + len(rule)))
    if not rule:
        raise BadText(at)
    return tuple(rule), at + len(rule)


def row_of(row):
    """The row of a rule that a row of a text writes, None where it writes none."""
    numbers = (0, MOST_UNITS)
    spans = (1, MOST_SPAN)
    found = found_in(row, (WHATS, (OVER, UNDER), numbers, "in", spans, (MORE, FEWER), (1, MOST_HANDS)))
    if found is not None:
        what, sign, number, span, way, many = found
        return (what, span, sign, number, many if way == MORE else -many)
    found = found_in(row, (WHATS, EACH, (1, MOST_UNITS), "in", spans))
    if found is None:
        return None
    what, number, span = found
    return (what, span, EACH, number, 0)
