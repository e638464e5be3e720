"""Posts, stands and wrong things that several tests ask of, and ways to alter them."""

import copy

TERA = 10 ** 12

OVER_ROW = ("come", 1, "over", 5, 2)
UNDER_ROW = ("wait", 4, "under", 0, -12)
EACH_ROW = ("done", 2, "each", 3, 0)

NOTHING = (0, 0, 0)

PLAIN_POST = (3, 40, (1, 6), 2, 2, (1, 3), ((OVER_ROW, UNDER_ROW), (EACH_ROW,)))
PLAIN_STAND = (7, 3, (1, 0, 2, 0, 1), 2, 4, ((5, 6, 7), (8, 9, 10), (0, 0, 0)))

# Where something waits it calls a hand, which does all there is and is sent home: under a load of 1 it swings for ever.
SWINGING = (2, 9, (0, 1), 0, 1, (0, 0), ((("wait", 1, "over", 0, 1), ("wait", 1, "under", 1, -1)),))
# It fills up to its room by one unit a beat, without a change.
FILLING = (1, 7, (0, 0), 0, 1, (0, 0), ())
# It calls two hands, one by one, as long as something waits.
GROWING = (1, 50, (0, 2), 0, 1, (2, 0), ((("wait", 1, "over", 0, 1),),))

# Of other kinds than a number, a tuple or one of the words of a row.
OTHER_KINDS = (
    True, False, None,
    "", "x", "1", "0", "come ", "Over",
    [], [1], [0, 0], ["come"], [[]],
    {}, {"over": 1}, {0: 0, 1: 1}, {1: (1, 2)},
)

WRONG_WORDS = ("", "came", "Come", "COME", "come ", " come", "com", "comes", "above", "eac", "each\n")


def nested(deep):
    """Lists, tuples and dicts, so deep one within the other, of several kinds."""
    things = [[], (), {}, [1], (1,), {"a": 1}, [True], (None,), {1: "come"}]
    for level in range(1, deep):
        things = [wrap(thing, level + place) for place, thing in enumerate(things)]
    return things


def wrap(thing, kind):
    """The thing within a list, a tuple or a dict."""
    return ([thing], (thing,), {"a": thing})[kind % 3]


def part_at(thing, path):
    """The part at a path of places."""
    for place in path:
        thing = thing[place]
    return thing


def swapped(thing, path, part):
    """The thing with another part at a path of places, the kinds around it as they are."""
    if not path:
        return part
    place = path[0]
    within = swapped(thing[place], path[1:], part)
    return thing[:place] + type(thing)([within]) + thing[place + 1:]


def paths_of(thing, path=()):
    """The paths of all parts within a thing of lists and tuples, its own path () first."""
    paths = [path]
    if isinstance(thing, (list, tuple)):
        for place, part in enumerate(thing):
            paths += paths_of(part, path + (place,))
    return paths


def tuple_paths(thing):
    """The paths of all tuples within a thing."""
    return [path for path in paths_of(thing) if isinstance(part_at(thing, path), tuple)]


def longer_and_shorter(parts):
    """The same parts with one left out, with one twice, with a 0 more, with nothing."""
    altered = [parts + (0,), (0,) + parts, parts + parts, ()]
    for place in range(len(parts)):
        altered.append(parts[:place] + parts[place + 1:])
        altered.append(parts[:place + 1] + parts[place:])
    return altered


def altered(thing):
    """The thing with one part otherwise, at any place and depth."""
    things = []
    for path in paths_of(thing):
        part = part_at(thing, path)
        others = [None, True, False, "", "1", [], (), {}, {0: part}, [part], (part,)]
        if isinstance(part, int):
            others += [part + 1, part - 1, -part - 1, str(part), part + TERA]
        if isinstance(part, (list, tuple)):
            others += [list(part) if isinstance(part, tuple) else tuple(part)]
            others += [part + type(part)([more]) for more in (0, None, [], ())]
            for place in range(len(part)):
                others.append(part[:place] + part[place + 1:])
                others.append(part[:place + 1] + part[place:])
        things += [swapped(thing, path, other) for other in others]
    return things


def kinds_of(thing):
    """The kinds of a thing and of all parts within it."""
    if isinstance(thing, (list, tuple)):
        return (type(thing), [kinds_of(part) for part in thing])
    return type(thing)


def some_row(chance):
    """A row of a rule, as a seeded chance gives it, with numbers that small loads get to."""
    what, span = chance.choice(("come", "done", "wait")), chance.randint(1, 4)
    if chance.random() < 0.3:
        return (what, span, "each", chance.randint(1, 6), 0)
    step = chance.choice([step for step in range(-4, 5) if step != 0])
    return (what, span, chance.choice(("over", "under")), chance.randint(0, 6), step)


def some_post(chance):
    """A small post, as a seeded chance gives it."""
    least, most = sorted((chance.randint(0, 6), chance.randint(0, 12)))
    rules = [tuple(some_row(chance) for row in range(chance.randint(1, 4))) for rule in range(chance.randint(0, 3))]
    rests = (chance.choice((0, 0, 1, 4)), chance.choice((0, 0, 1, 9)))
    room = chance.choice((0, 5, 20, 60, TERA))
    return (chance.randint(1, 4), room, (least, most), chance.randint(0, 4), chance.randint(1, 6), rests, tuple(rules))


def some_stand(chance):
    """A stand of small numbers, as a seeded chance gives it."""
    hands = [chance.choice((0, 0, 1, 2)) for place in range(5)]
    seen = tuple(tuple(chance.randint(0, 12) for number in range(3)) for triple in range(3))
    rest = chance.choice((0, 0, 1, 9))
    return (chance.randint(0, 30), chance.randint(0, 12 - sum(hands)), tuple(hands), chance.randint(0, 5), rest, seen)


def slow_wish(post, hands, newest):
    """The wish, reckoned with loops as [7] tells it."""
    wishes = []
    for rule in post[6]:
        says = []
        for what, span, sign, number, step in rule:
            total = sum(newest[at]["come done wait".split().index(what)] for at in range(span))
            if sign == "each":
                many = 0
                while many * number * span < total and many < 13:
                    many += 1
                says.append(many)
            elif (total > number * span) if sign == "over" else (total < number * span):
                says.append(hands + step)
        wishes.append((says + [hands])[0])
    wished = max(wishes) if wishes else hands
    return sorted((post[2][0], wished, post[2][1]))[1]


def slow_beat(post, stand, come, free=12):
    """A beat, reckoned with one number for each hand: 0 where it is ready, else in how many beats it begins."""
    pace, room, bounds, late, every, (up, down), rules = post
    wait, ready, called, since, rest, seen = stand
    crew = [0] * ready + [place + 1 for place in range(5) for hand in range(called[place])]
    crew = [max(hand - 1, 0) for hand in crew]
    away = 0 if wait + come <= room else come if wait >= room else wait + come - room
    wait += come - away
    done = 0
    for hand in crew:
        if hand == 0:
            done += min(pace, wait - done)
    wait -= done
    newest = [(come, done, wait)] + list(seen)
    resting, rest, since, change = rest > 0, max(rest - 1, 0), since + 1, 0
    if since >= every:
        since = 0
        if not resting:
            change = min(slow_wish(post, len(crew), newest) - len(crew), free)
    if change > 0:
        crew, rest = crew + [late + 1] * change, up
    if change < 0:
        crew, rest = sorted(crew)[:change], down
    called = tuple(crew.count(place + 1) for place in range(5))
    return ((wait, crew.count(0), called, since, rest, tuple(newest[:3])), done, away, change)


def some_curve(chance):
    """A small curve, as a seeded chance gives it."""
    return tuple((chance.randint(0, 8), chance.randint(0, 3)) for pair in range(chance.randint(1, 3)))


def stretches(load):
    """The pair of how many beats and how many units, for each stretch of a load."""
    return [
        (end - begin, sum(load[begin:end]))
        for begin in range(len(load)) for end in range(begin + 1, len(load) + 1)
    ]


def slow_within(curve, load):
    """Whether each stretch is below each pair's bound."""
    return all(units <= burst + rate * many for burst, rate in curve for many, units in stretches(load))


def slow_spares(curve, load):
    """The spares, stretch by stretch that ends with the load."""
    told = []
    for burst, rate in curve:
        ends = [burst + rate * many - sum(load[len(load) - many:]) for many in range(1, len(load) + 1)]
        told.append(min([burst] + ends))
    return tuple(told)


def loads_within(curve, longest):
    """All loads within a curve, the shorter ones first, of one length the least first."""
    loads = [[]]
    for load in loads:
        if len(load) < longest:
            for come in range(min(burst + rate for burst, rate in curve) + 1):
                if slow_within(curve, load + [come]):
                    loads.append(load + [come])
    return loads


def load_by(entries, place):
    """What led to an entry, by from and come."""
    load = []
    while entries[place][2] is not None:
        load = [entries[place][3]] + load
        place = entries[place][2]
    return load


def lists_of(thing):
    """All lists within a thing of lists and tuples, itself too."""
    lists = [thing] if isinstance(thing, list) else []
    if isinstance(thing, (list, tuple)):
        for part in thing:
            lists += lists_of(part)
    return lists


def spoil(thing):
    """Changes every list within a thing."""
    for each in lists_of(thing):
        each.append("more")
        each[0] = None


def assert_own(case, ask):
    """What is asked twice is told the same, shares no list, and stays so where told lists are changed."""
    one = ask()
    expected = copy.deepcopy(one)
    other = ask()
    case.assertEqual(other, expected)
    lists = lists_of([one, other])
    case.assertEqual(len({id(each) for each in lists}), len(lists))
    spoil(one)
    case.assertEqual(other, expected)
    case.assertEqual(ask(), expected)
