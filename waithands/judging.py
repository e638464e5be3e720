"""How many hands a post wishes to have, by its rules and what was seen."""

from waithands.words import EACH, OVER, UNDER, WHATS


def wish(post, hands, newest):
    """How many hands it wishes, by those that it has and the four newest triples, the newest first."""
    least, most = post[2]
    wishes = [rule_wish(rule, hands, newest) for rule in post[6]]
    wished = max(wishes, default=hands)
    return min(max(wished, least), most)


def rule_wish(rule, hands, newest):
    """What the first row that says something says, hands where none does."""
    for row in rule:
        said = row_says(row, hands, newest)
        if said is not None:
            return said
    return hands


def row_says(row, hands, newest):
    """How many hands a row says, None where it says nothing."""
    what, span, sign, number, step = row
    place = WHATS.index(what)
    total = sum([triple[place] for triple in newest[:span]])
    # The rows tell a number for one beat; the sum goes over span of them.
    mark = number * span
    if sign == EACH:
        return (total + mark - 1) // mark
    if (sign == OVER and total > mark) or (sign == UNDER and total < mark):
        return hands + step
    return None
