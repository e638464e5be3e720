"""Posts, stands and wrong things that several tests ask of, and ways to alter them."""

TERA = 10 ** 12

OVER_ROW = ("come", 1, "over", 5, 2)
UNDER_ROW = ("wait", 4, "under", 0, -12)
EACH_ROW = ("done", 2, "each", 3, 0)

NOTHING = (0, 0, 0)

PLAIN_POST = (3, 40, (1, 6), 2, 2, (1, 3), ((OVER_ROW, UNDER_ROW), (EACH_ROW,)))
PLAIN_STAND = (7, 3, (1, 0, 2, 0, 1), 2, 4, ((5, 6, 7), (8, 9, 10), (0, 0, 0)))

# Of other kinds than a number, a tuple or one of the words of a row.
OTHER_KINDS = (
    True, False, None,
    "", "x", "1", "0", "come ", "Over",
    [], [1], [0, 0], ["come"], [[]],
    {}, {"over": 1}, {0: 0, 1: 1}, {1: (1, 2)},
)

WRONG_WORDS = ("", "came", "Come", "COME", "come ", " come", "com", "comes", "above", "eac", "each\n")


def nested(deep):
    """Lists, tuples and dicts, so deep one within the other, of several kinds."""
    things = [[], (), {}, [1], (1,), {"a": 1}, [True], (None,), {1: "come"}]
    for level in range(1, deep):
        things = [wrap(thing, level + place) for place, thing in enumerate(things)]
    return things


def wrap(thing, kind):
    """The thing within a list, a tuple or a dict."""
    return ([thing], (thing,), {"a": thing})[kind % 3]


def part_at(thing, path):
    """The part at a path of places."""
    for place in path:
        thing = thing[place]
    return thing


def swapped(thing, path, part):
    """The thing with another part at a path of places, the kinds around it as they are."""
    if not path:
        return part
    place = path[0]
    within = swapped(thing[place], path[1:], part)
    return thing[:place] + (within,) + thing[place + 1:]


def paths_of(thing, path=()):
    """The paths of all parts within a thing of tuples, its own path () first."""
    paths = [path]
    if isinstance(thing, tuple):
        for place, part in enumerate(thing):
            paths += paths_of(part, path + (place,))
    return paths


def tuple_paths(thing):
    """The paths of all tuples within a thing."""
    return [path for path in paths_of(thing) if isinstance(part_at(thing, path), tuple)]


def longer_and_shorter(parts):
    """The same parts with one left out, with one twice, with a 0 more, with nothing."""
    altered = [parts + (0,), (0,) + parts, parts + parts, ()]
    for place in range(len(parts)):
        altered.append(parts[:place] + parts[place + 1:])
        altered.append(parts[:place + 1] + parts[place:])
    return altered
