"""Papers, and whether they show what is told ([17], [1] (c) to (e))."""

import copy
import random
import unittest

from tests.samples import FILLING, GROWING, PLAIN_STAND, SWINGING, TERA
from tests.samples import altered, kinds_of, nested, paths_of, slow_beat, slow_within, some_post, some_stand, swapped
from waithands.alike import lean
from waithands.calming import calm
from waithands.errors import TooMany
from waithands.fewest import fewest, with_most
from waithands.leading import led, opened
from waithands.papers import shows_broken, shows_calm, shows_fewest, shows_kept, shows_swing
from waithands.posts import first_stand

# It calls a hand for each unit that waits.
CALLING = (1, 6, (0, 2), 0, 1, (0, 0), ((("wait", 1, "each", 1, 0),),))
# Its rule goes by two beats, and it swings under no load.
LOOKING = (1, 3, (1, 2), 0, 1, (0, 0), ((("come", 2, "over", 0, 1), ("wait", 1, "under", 1, -1)),))

CURVES = (((0, 0),), ((2, 0),), ((0, 1),), ((1, 1),), ((0, 2),), ((1, 2), (2, 1)))


def is_number(thing):
    return type(thing) is int


def slow_leads(post, curve, entry, come):
    """What a beat with come leads to from an entry, with what is sent away and the change; None if it may not come."""
    spare = tuple(min(burst, left + rate - come) for (burst, rate), left in zip(curve, entry[1]))
    if come < 0 or min(spare) < 0:
        return None
    behind, done, away, change = slow_beat(post, entry[0], come)
    return (lean(post, behind), spare), away, change


def slow_entries(post, stand, curve, thing):
    """Whether it is a list of entries that nothing leads out of, by the clauses one by one."""
    width = min(burst + rate for burst, rate in curve)
    if type(thing) is not list or width > 23 or len(thing) == 0:
        return False
    for place, entry in enumerate(thing):
        if type(entry) is not tuple or len(entry) != 4:
            return False
        if kinds_of(entry[:2]) != (tuple, [kinds_of(PLAIN_STAND), (tuple, [int] * len(curve))]):
            return False
        if place == 0:
            if entry != (lean(post, stand), tuple(burst for burst, rate in curve), None, None):
                return False
            continue
        if not is_number(entry[2]) or not is_number(entry[3]) or entry[2] not in range(place):
            return False
        leads = slow_leads(post, curve, thing[entry[2]], entry[3])
        if leads is None or leads[0] != entry[:2]:
            return False
    keys = [entry[:2] for entry in thing]
    if any(keys.count(key) > 1 for key in keys):
        return False
    all_led = [slow_leads(post, curve, entry, come) for entry in thing for come in range(width + 1)]
    return all(leads[0] in keys for leads in all_led if leads is not None)


def slow_kept(post, stand, curve, bound, thing):
    """Whether it shows that a bound is kept, by the clauses one by one."""
    if not slow_entries(post, stand, curve, thing):
        return False
    for entry in thing:
        for come in range(24):
            leads = slow_leads(post, curve, entry, come)
            if leads is not None and (leads[0][0][0] > bound or leads[1] > 0):
                return False
    return True


def slow_load(curve, thing, least):
    """Whether it is a load within the curve of at least so many beats."""
    if type(thing) is not list or not least <= len(thing) <= 600:
        return False
    return all(is_number(come) and come >= 0 for come in thing) and slow_within(curve, thing)


def slow_broken(post, stand, curve, bound, thing):
    """Whether it shows that a bound is broken, by the clauses one by one."""
    if not slow_load(curve, thing, 1):
        return False
    for come in thing:
        stand, done, away, change = slow_beat(post, stand, come)
    return stand[0] > bound or away > 0


def slow_calm(post, stand, curve, thing):
    """Whether it shows that hands come to rest, by the clauses one by one."""
    if type(thing) is not tuple or len(thing) != 2 or not slow_entries(post, stand, curve, thing[0]):
        return False
    entries, worths = thing
    comes = min(rate for burst, rate in curve) + 1
    if kinds_of(worths) != (list, [(list, [int] * len(entries))] * comes):
        return False
    keys = [entry[:2] for entry in entries]
    for come, row in enumerate(worths):
        for entry, worth in zip(entries, row):
            key, away, change = slow_leads(post, curve, entry, come)
            behind = row[keys.index(key)]
            if worth < 0 or (worth == 0 and (change, behind) != (0, 0)) or (worth > 0 and behind >= worth):
                return False
    return True


def slow_swing(post, stand, curve, thing):
    """Whether it shows that hands go round for ever, by the clauses one by one."""
    if type(thing) is not tuple or len(thing) != 3 or not slow_load(curve, thing[0], 0):
        return False
    load, come, length = thing
    if not is_number(come) or not is_number(length) or not 0 <= come <= min(rate for burst, rate in curve):
        return False
    for units in load:
        stand = slow_beat(post, stand, units)[0]
    if length not in range(1, 1001):
        return False
    at, changed = stand, 0
    for beat in range(length):
        at, done, away, change = slow_beat(post, at, come)
        changed += change != 0
    return lean(post, at) == lean(post, stand) and changed > 0


def slow_fewest(post, curve, bound, thing):
    """Whether it shows the fewest hands, by the clauses one by one."""
    if type(thing) is not tuple or len(thing) != 3 or min(burst + rate for burst, rate in curve) > 23:
        return False
    many, entries, loads = thing
    least, most = post[2]
    if many is None:
        if entries is not None:
            return False
        fewer = range(least, most + 1)
    else:
        if not is_number(many) or not least <= many <= most:
            return False
        if not slow_kept(swapped(post, (2, 1), many), first_stand(post), curve, bound, entries):
            return False
        fewer = range(least, many)
    if type(loads) is not list or len(loads) != len(fewer):
        return False
    posts = [swapped(post, (2, 1), some) for some in fewer]
    return all(slow_broken(other, first_stand(post), curve, bound, load) for other, load in zip(posts, loads))


def in_another_order(chance, entries):
    """The entries in another order in which each stands behind the one it came from, with from by the new places."""
    order = [0]
    while len(order) < len(entries):
        free = [place for place in range(1, len(entries)) if place not in order and entries[place][2] in order]
        order.append(chance.choice(free))
    moved = [entries[place] for place in order[1:]]
    return order, entries[:1] + [entry[:2] + (order.index(entry[2]), entry[3]) for entry in moved]


def some_case(chance):
    """A post, a stand of it and a curve with few entries, as a seeded chance gives them."""
    while True:
        post = swapped(some_post(chance), (1,), chance.choice((1, 3, 5)))
        if chance.random() < 0.5:
            post = swapped(chance.choice((CALLING, LOOKING, SWINGING, GROWING)), (1,), chance.choice((1, 2, 4)))
        stand = first_stand(post) if chance.random() < 0.5 else some_stand(chance)
        curve = chance.choice(CURVES)
        try:
            led(post, stand, curve, 60)
        except TooMany:
            continue
        return post, stand, curve


class Papers(unittest.TestCase):

    def assert_shows(self, shown, *asked):
        """It is told so as True or False itself, and what is handed in stays."""
        checker, *handed = asked
        ahead = copy.deepcopy(handed)
        self.assertIs(checker(*handed), shown)
        self.assertEqual(repr(handed), repr(ahead))

    def assert_altered(self, checker, slow, handed, thing):
        """The thing shows it; with one part otherwise it does as the clauses come to."""
        self.assert_shows(True, checker, *handed, thing)
        answers = [0, 0]
        for other in altered(thing):
            expected = slow(*handed, other)
            answers[expected] += 1
            if checker(*handed, other) is not expected:
                self.fail((handed, other, expected))
        return answers

    def assert_any_make(self, checker, handed, thing):
        """Things of any make in the place of the thing, and of each part of it, show nothing and are no error."""
        for other in nested(1) + nested(2) + nested(10) + [0, -1, 1, "", "kept", None, True, False, TERA ** 9, []]:
            self.assertIs(checker(*handed, other), False)
        for path in paths_of(thing):
            for other in nested(10 - len(path)):
                self.assertIs(checker(*handed, swapped(thing, path, other)), False)


class Kept(Papers):

    def setUp(self):
        self.handed = (CALLING, first_stand(CALLING), ((0, 2),), 2)
        self.entries = led(*self.handed[:3])

    def test_what_opened_tells(self):
        self.assertEqual(opened(*self.handed), ("kept", self.entries))
        self.assert_shows(True, shows_kept, *self.handed, self.entries)
        chance = random.Random(170)
        kept = 0
        for turn in range(80):
            post, stand, curve = some_case(chance)
            bound = chance.randint(0, 5)
            entries = led(post, stand, curve)
            how, shown = opened(post, stand, curve, bound)
            kept += how == "kept"
            self.assert_shows(how == "kept", shows_kept, post, stand, curve, bound, entries)
        self.assertGreater(kept, 10)
        self.assertLess(kept, 70)

    def test_a_bound_one_less_and_more(self):
        for bound, shown in ((0, False), (1, False), (2, True), (3, True), (TERA, True)):
            self.assert_shows(shown, shows_kept, *self.handed[:3], bound, self.entries)
        # Something is sent away by 2 from some entry, whatever the bound.
        self.assert_shows(False, shows_kept, swapped(CALLING, (1,), 1), *self.handed[1:3], TERA, self.entries)

    def test_in_another_order(self):
        chance = random.Random(171)
        orders = set()
        for turn in range(60):
            order, entries = in_another_order(chance, self.entries)
            orders.add(tuple(order))
            self.assert_shows(True, shows_kept, *self.handed, entries)
        self.assertGreater(len(orders), 5)
        for turn in range(30):
            post, stand, curve = some_case(chance)
            order, entries = in_another_order(chance, led(post, stand, curve))
            self.assert_shows(slow_kept(post, stand, curve, 3, entries), shows_kept, post, stand, curve, 3, entries)

    def test_the_first_one_not_first(self):
        self.assert_shows(False, shows_kept, *self.handed, self.entries[1:] + self.entries[:1])
        self.assert_shows(False, shows_kept, *self.handed, self.entries[::-1])

    def test_another_from_or_come_that_leads_there_too(self):
        found = 0
        for place in range(1, len(self.entries)):
            for other in range(len(self.entries)):
                for come in range(3):
                    entry = self.entries[place][:2] + (other, come)
                    thing = self.entries[:place] + [entry] + self.entries[place + 1:]
                    leads = slow_leads(CALLING, ((0, 2),), self.entries[other], come)
                    shown = other < place and leads is not None and leads[0] == entry[:2]
                    found += shown
                    self.assert_shows(shown, shows_kept, *self.handed, thing)
        self.assertGreater(found, len(self.entries))

    def test_from_at_its_own_place_or_behind_or_below_0(self):
        for place in range(1, len(self.entries)):
            stand, spare, came_from, come = self.entries[place]
            many = len(self.entries)
            for other in (place, place + 1, many, TERA, came_from - many, -1, None, True, False):
                thing = swapped(self.entries, (place, 2), other)
                self.assert_shows(False, shows_kept, *self.handed, thing)

    def test_a_come_that_may_not_come(self):
        self.assert_shows(False, shows_kept, *self.handed, led(CALLING, first_stand(CALLING), ((0, 3),)))
        for place in range(1, len(self.entries)):
            for come in (3, 4, -1, -2, TERA):
                self.assert_shows(False, shows_kept, *self.handed, swapped(self.entries, (place, 3), come))
        # By 2 as by 1 it is full; more than 1 may not come.
        post = swapped(FILLING, (1,), 1)
        entries = led(post, first_stand(post), ((0, 1),))
        worths = [[0, 0]] * 2
        for come, shown in ((1, True), (2, False), (0, False), (-1, False)):
            thing = (swapped(entries, (1, 3), come), worths)
            self.assert_shows(shown, shows_calm, post, first_stand(post), ((0, 1),), thing)

    def test_a_come_below_0_that_would_lead_there(self):
        # All is done in the beat it comes in, so the stands are one, and only the spares differ.
        post = (5, 9, (1, 1), 0, 1, (0, 0), ())
        stand = first_stand(post)
        for come_from, come, shown in ((0, 2, True), (1, -1, False), (2, 0, True), (1, 0, False)):
            last = (stand, (2,), come_from, come)
            entries = [(stand, (3,), None, None), (stand, (0,), 0, 4), (stand, (1,), 0, 3), last]
            self.assert_shows(shown, shows_kept, post, stand, ((3, 1),), 0, entries)

    def test_one_left_out_twice_or_that_nothing_leads_to(self):
        entries = self.entries
        for place in range(len(entries)):
            self.assert_shows(False, shows_kept, *self.handed, entries[:place] + entries[place + 1:])
            self.assert_shows(False, shows_kept, *self.handed, entries + [entries[place]])
        self.assert_shows(False, shows_kept, *self.handed, entries + [(PLAIN_STAND, (0,), 0, 1)])
        self.assert_shows(False, shows_kept, *self.handed, entries + [(PLAIN_STAND, (0,), None, None)])
        self.assert_shows(False, shows_kept, *self.handed, entries[:1])
        self.assert_shows(False, shows_kept, *self.handed, [])

    def test_one_twice_with_another_from(self):
        # Nothing is wrong with it but that the stand and the spares stand there twice.
        for place in range(1, len(self.entries)):
            for other in range(len(self.entries)):
                for come in range(3):
                    leads = slow_leads(CALLING, ((0, 2),), self.entries[other], come)
                    if leads is not None and leads[0] == self.entries[place][:2]:
                        more = self.entries[place][:2] + (other, come)
                        self.assert_shows(False, shows_kept, *self.handed, self.entries + [more])

    def test_one_part_otherwise(self):
        answers = self.assert_altered(shows_kept, slow_kept, self.handed, self.entries)
        self.assertGreater(answers[0], 500)
        handed = (LOOKING, first_stand(LOOKING), ((1, 0), (0, 1)), 3)
        self.assert_altered(shows_kept, slow_kept, handed, led(*handed[:3]))
        handed = (FILLING, first_stand(FILLING), ((0, 0),), 0)
        self.assert_altered(shows_kept, slow_kept, handed, led(*handed[:3]))

    def test_another_post_stand_or_curve(self):
        chance = random.Random(172)
        for turn in range(40):
            post, stand, curve = some_case(chance)
            other_post, other_stand, other_curve = some_case(chance)
            entries = led(post, stand, curve)
            for handed in (
                (other_post, stand, curve), (post, other_stand, curve), (post, stand, other_curve),
                (swapped(post, (0,), post[0] + 1), stand, curve), (post, lean(post, stand), curve),
            ):
                for bound in (0, 3, 30 * TERA):
                    expected = slow_kept(*handed, bound, entries)
                    self.assert_shows(expected, shows_kept, *handed, bound, entries)

    def test_a_stand_that_is_not_lean(self):
        stand = swapped(swapped(first_stand(CALLING), (3,), 5), (5, 1), (7, 8, 9))
        self.assert_shows(True, shows_kept, CALLING, stand, *self.handed[2:], self.entries)
        self.assert_shows(False, shows_kept, CALLING, stand, *self.handed[2:], swapped(self.entries, (0, 0), stand))

    def test_too_wide(self):
        post = swapped(FILLING, (1,), 50)
        nothing = first_stand(post)
        for most in (22, 23, 24, 25):
            entries = [(swapped(nothing, (0,), units), (most - units,), 0, units) for units in range(most + 1)]
            entries[0] = entries[0][:2] + (None, None)
            self.assert_shows(most <= 23, shows_kept, post, nothing, ((most, 0),), 50, entries)
            self.assert_shows(most <= 23, shows_calm, post, nothing, ((most, 0),), (entries, [[0] * len(entries)]))
            self.assert_shows(most <= 23, shows_fewest, post, ((most, 0),), 50, (0, entries, []))
            self.assert_shows(most <= 23, shows_fewest, post, ((most, 0),), most - 1, (None, None, [[most]]))
            self.assert_shows(True, shows_broken, post, nothing, ((most, 0),), most - 1, [most])

    def test_more_than_600_entries(self):
        post = swapped(FILLING, (1,), 700)
        stand = swapped(first_stand(post), (0,), 0)
        entries = [(swapped(stand, (0,), units), (0,), units - 1, 1) for units in range(701)]
        entries[0] = entries[0][:2] + (None, None)
        self.assert_shows(False, shows_kept, post, stand, ((0, 1),), TERA, entries)
        self.assert_shows(True, shows_calm, post, stand, ((0, 1),), (entries, [[0] * 701] * 2))

    def test_things_of_any_make(self):
        self.assert_any_make(shows_kept, self.handed, self.entries)


class Broken(Papers):

    def test_what_opened_tells(self):
        chance = random.Random(173)
        broken = 0
        for turn in range(80):
            post, stand, curve = some_case(chance)
            bound = chance.randint(0, 4)
            how, shown = opened(post, stand, curve, bound)
            if how == "broken":
                broken += 1
                self.assert_shows(True, shows_broken, post, stand, curve, bound, shown)
                self.assert_shows(False, shows_broken, post, stand, curve, bound, shown[:-1])
        self.assertGreater(broken, 20)

    def test_longer_loads(self):
        stand = first_stand(FILLING)
        for load in ([5], [0, 5], [1, 1, 1, 1, 1], [5, 0, 0], [4, 1], [0] * 20 + [5]):
            self.assert_shows(True, shows_broken, FILLING, stand, ((5, 0),), 4, load)
        for load in ([4], [4, 0], [6], [3, 3], [5, 1], [], [0, 0, 0], [1, 1, 1, 1]):
            self.assert_shows(False, shows_broken, FILLING, stand, ((5, 0),), 4, load)

    def test_only_the_last_beat_counts(self):
        post = (1, 9, (1, 1), 0, 1, (0, 0), ())
        self.assert_shows(True, shows_broken, post, first_stand(post), ((2, 1),), 1, [3])
        self.assert_shows(False, shows_broken, post, first_stand(post), ((2, 1),), 1, [3, 0])
        self.assert_shows(True, shows_broken, post, first_stand(post), ((2, 1),), 1, [3, 0, 0, 0, 3])
        # Sent away in the first of two beats, not in the last.
        self.assert_shows(True, shows_broken, swapped(post, (1,), 2), first_stand(post), ((2, 1),), 9, [3])
        self.assert_shows(False, shows_broken, swapped(post, (1,), 2), first_stand(post), ((2, 1),), 9, [3, 0])

    def test_no_beats_600_and_601(self):
        stand = swapped(first_stand(FILLING), (0,), 9)
        self.assert_shows(False, shows_broken, FILLING, stand, ((0, 1),), 5, [])
        for many, shown in ((1, True), (599, True), (600, True), (601, False)):
            self.assert_shows(shown, shows_broken, FILLING, stand, ((0, 1),), 5, [1] * many)
            self.assert_shows(shown, shows_broken, FILLING, stand, ((0, 1),), 5, [0] * many)

    def test_large_numbers_and_wide_curves(self):
        stand = first_stand(FILLING)
        self.assert_shows(True, shows_broken, FILLING, stand, ((TERA, TERA),), 5, [2 * TERA])
        self.assert_shows(False, shows_broken, FILLING, stand, ((TERA, TERA),), 5, [2 * TERA + 1])
        self.assert_shows(False, shows_broken, FILLING, stand, ((TERA, TERA), (0, 7)), 7, [7])
        self.assert_shows(True, shows_broken, FILLING, stand, ((TERA, TERA), (0, 8)), 7, [8])

    def test_one_part_otherwise(self):
        for post, curve, bound, load in (
            (FILLING, ((5, 0),), 4, [1, 1, 3]), (FILLING, ((0, 1),), 2, [1, 1, 1]), (CALLING, ((0, 2),), 1, [0, 1, 2]),
            (swapped(FILLING, (1,), 1), ((1, 1), (2, 2)), 9, [1, 2]),
        ):
            for stand in (first_stand(post), swapped(first_stand(post), (0,), 1)):
                self.assert_altered(shows_broken, slow_broken, (post, stand, curve, bound), load)

    def test_another_post_stand_curve_or_bound(self):
        chance = random.Random(174)
        seen = [0, 0]
        for turn in range(400):
            post, stand, curve = some_case(chance)
            bound = chance.randint(0, 4)
            load = [chance.choice((0, 0, 1, 1, 2)) for beat in range(chance.randint(0, 5))]
            expected = slow_broken(post, stand, curve, bound, load)
            seen[expected] += 1
            self.assert_shows(expected, shows_broken, post, stand, curve, bound, load)
        self.assertGreater(min(seen), 40)

    def test_things_of_any_make(self):
        self.assert_any_make(shows_broken, (FILLING, first_stand(FILLING), ((5, 0),), 4), [1, 1, 3])


class Calm(Papers):

    def setUp(self):
        self.handed = (CALLING, first_stand(CALLING), ((0, 2),))
        self.thing = calm(*self.handed)[1:]

    def test_what_calm_tells(self):
        self.assert_shows(True, shows_calm, *self.handed, self.thing)
        chance = random.Random(175)
        seen = {"calm": 0, "swings": 0}
        for turn in range(80):
            post, stand, curve = some_case(chance)
            how, *thing = calm(post, stand, curve)
            seen[how] += 1
            if how == "calm":
                self.assert_shows(True, shows_calm, post, stand, curve, tuple(thing))
                self.assert_shows(False, shows_calm, post, stand, curve, thing)
            else:
                self.assert_shows(True, shows_swing, post, stand, curve, tuple(thing))
                self.assert_shows(False, shows_swing, post, stand, curve, thing)
        self.assertGreater(min(seen.values()), 5, seen)

    def test_worths_that_fall_by_more_than_one(self):
        post = swapped(GROWING, (1,), 3)
        handed = (post, first_stand(post), ((1, 1),))
        how, entries, worths = calm(*handed, 600)
        self.assertGreater(max(worths[1]), 2)
        for times in (2, 3, TERA):
            higher = [[worth * times for worth in row] for row in worths]
            self.assert_shows(True, shows_calm, *handed, (entries, higher))
            # The last one above 0 may stand as high as it likes below those ahead of it.
            higher = [[worth * times + (times - 1 if worth else 0) for worth in row] for row in worths]
            self.assert_shows(True, shows_calm, *handed, (entries, higher))
        self.assert_shows(False, shows_calm, *handed, (entries, [[worth + 1 for worth in row] for row in worths]))
        self.assert_shows(False, shows_calm, *handed, (entries, [[0] * len(entries)] * 2))
        self.assert_shows(False, shows_calm, *handed, (entries, worths[::-1]))

    def test_whatever_breaks(self):
        # Something is sent away, and yet the hands come to rest.
        stand = first_stand(FILLING)
        how, entries, worths = calm(FILLING, stand, ((0, 1),))
        self.assert_shows(True, shows_calm, FILLING, stand, ((0, 1),), (entries, worths))
        self.assert_shows(False, shows_kept, FILLING, stand, ((0, 1),), TERA, entries)

    def test_in_another_order(self):
        chance = random.Random(176)
        entries, worths = self.thing
        for turn in range(20):
            order, moved = in_another_order(chance, entries)
            thing = (moved, [[row[place] for place in order] for row in worths])
            self.assert_shows(True, shows_calm, *self.handed, thing)
            expected = slow_calm(*self.handed, (moved, worths))
            self.assert_shows(expected, shows_calm, *self.handed, (moved, worths))

    def test_worths_by_spares_too(self):
        # The same stand twice, with other spares: each entry has a worth of its own.
        post = swapped(GROWING, (1,), 2)
        handed = (post, first_stand(post), ((1, 2),))
        how, entries, worths = calm(*handed, 600)
        stands = [entry[0] for entry in entries]
        twice = [place for place, stand in enumerate(stands) if stands.count(stand) > 1]
        self.assertNotEqual(twice, [])
        seen = [0, 0]
        for come, row in enumerate(worths):
            for place in twice:
                for worth in (row[place] + 1, row[place] + 2, max(row[place] - 1, 0)):
                    thing = (entries, swapped(worths, (come, place), worth))
                    expected = slow_calm(*handed, thing)
                    seen[expected] += 1
                    self.assert_shows(expected, shows_calm, *handed, thing)
        self.assertGreater(min(seen), 0)

    def test_rows_one_too_few_and_one_too_many(self):
        entries, worths = self.thing
        for other in (worths[:-1], worths + [worths[-1]], worths[1:], [], [row[:-1] for row in worths],
                      [row + [0] for row in worths], tuple(worths), [tuple(row) for row in worths]):
            self.assert_shows(False, shows_calm, *self.handed, (entries, other))

    def test_the_least_rate_tells_how_many(self):
        handed = (FILLING, first_stand(FILLING), ((0, 2), (1, 1)))
        entries = led(*handed)
        for many in range(5):
            self.assert_shows(many == 2, shows_calm, *handed, (entries, [[0] * len(entries)] * many))

    def test_one_part_otherwise(self):
        answers = self.assert_altered(shows_calm, slow_calm, self.handed, self.thing)
        self.assertGreater(answers[0], 500)
        self.assertGreater(answers[1], 0)
        handed = (LOOKING, first_stand(LOOKING), ((1, 0), (0, 1)))
        self.assert_altered(shows_calm, slow_calm, handed, calm(*handed)[1:])

    def test_another_post_stand_or_curve(self):
        chance = random.Random(177)
        for turn in range(40):
            post, stand, curve = some_case(chance)
            other_post, other_stand, other_curve = some_case(chance)
            how, *thing = calm(post, stand, curve)
            for handed in ((other_post, stand, curve), (post, other_stand, curve), (post, stand, other_curve)):
                if how == "calm":
                    expected = slow_calm(*handed, tuple(thing))
                    self.assert_shows(expected, shows_calm, *handed, tuple(thing))
                else:
                    expected = slow_swing(*handed, tuple(thing))
                    self.assert_shows(expected, shows_swing, *handed, tuple(thing))

    def test_things_of_any_make(self):
        self.assert_any_make(shows_calm, self.handed, self.thing)
        self.assert_shows(False, shows_calm, *self.handed, self.thing[0])
        self.assert_shows(False, shows_calm, *self.handed, self.thing + (0,))


class Swing(Papers):

    def setUp(self):
        self.handed = (SWINGING, first_stand(SWINGING), ((3, 2),))

    def test_what_calm_tells(self):
        self.assertEqual(calm(*self.handed), ("swings", [], 1, 2))
        self.assert_shows(True, shows_swing, *self.handed, ([], 1, 2))

    def test_several_times_round_and_other_loads(self):
        for length in range(-1, 9):
            self.assert_shows(length in (2, 4, 6, 8), shows_swing, *self.handed, ([], 1, length))
        seen = [0, 0]
        for load in ([0], [1], [1, 1], [5], [5, 0, 0, 0], [2, 2, 2], [3, 0, 0, 0, 0, 0], [0] * 600, [0] * 601, [6]):
            for come in range(4):
                for length in (1, 2, 3, 4, 12):
                    expected = slow_swing(*self.handed, (load, come, length))
                    seen[expected] += 1
                    self.assert_shows(expected, shows_swing, *self.handed, (load, come, length))
        self.assertGreater(min(seen), 10)

    def test_length_0_1000_and_1001(self):
        for length, shown in ((0, False), (2, True), (998, True), (999, False), (1000, True), (1002, False)):
            self.assert_shows(shown, shows_swing, *self.handed, ([], 1, length))
        # It goes round by seven beats, not all of them with a change.
        post = (1, 5, (0, 2), 0, 1, (0, 1), ((("wait", 1, "over", 2, 1), ("wait", 1, "under", 3, -1)),))
        handed = (post, swapped(first_stand(post), (1,), 1), ((1, 2),))
        self.assertEqual(calm(*handed), ("swings", [3], 1, 7))
        for length, shown in ((7, True), (14, True), (994, True), (1001, False), (1, False), (8, False)):
            self.assert_shows(shown, shows_swing, *handed, ([3], 1, length))

    def test_loads_of_600_and_601_beats_and_not_within(self):
        for load, shown in (([0] * 600, True), ([0] * 601, False), ([0] * 602, False), ([6], False), ([5, 3], False)):
            self.assert_shows(shown, shows_swing, *self.handed, (load, 1, 2))
        narrow = (SWINGING, first_stand(SWINGING), ((0, 1),))
        only_beyond = 0
        for load in ([1], [1, 1], [2], [3], [2, 0], [3, 0], [2, 1], [3, 0, 0], [5, 0, 0, 0], [4, 0, 0, 0]):
            wide = slow_swing(*self.handed, (load, 1, 2))
            self.assert_shows(wide, shows_swing, *self.handed, (load, 1, 2))
            self.assert_shows(wide and max(load) < 2, shows_swing, *narrow, (load, 1, 2))
            only_beyond += wide and max(load) > 1
        self.assertGreater(only_beyond, 0)

    def test_a_come_above_the_least_rate_or_below_0(self):
        swinging = swapped(SWINGING, (0,), 9)
        for curve, shown in ((((3, 2),), True), (((3, 1),), True), (((3, 0),), False), (((3, 4), (9, 0)), False)):
            handed = (swinging, first_stand(swinging), curve)
            self.assert_shows(shown, shows_swing, *handed, ([], 1, 2))
            self.assert_shows(False, shows_swing, *handed, ([], -1, 2))

    def test_back_without_a_change(self):
        stand = first_stand(FILLING)
        self.assert_shows(False, shows_swing, FILLING, stand, ((0, 1),), ([], 0, 1))
        self.assert_shows(False, shows_swing, FILLING, stand, ((0, 1),), ([1] * 7, 1, 1))

    def test_a_change_that_does_not_lead_back(self):
        post = swapped(GROWING, (1,), 2)
        self.assert_shows(False, shows_swing, post, first_stand(post), ((0, 1),), ([], 1, 1))

    def test_back_to_an_alike_stand(self):
        # What was seen differs ahead and behind, but nothing looks at it.
        stand = swapped(swapped(first_stand(SWINGING), (5, 2), (7, 8, 9)), (3,), 4)
        self.assert_shows(True, shows_swing, SWINGING, stand, ((3, 2),), ([], 1, 2))

    def test_wide_curves(self):
        self.assert_shows(True, shows_swing, *self.handed[:2], ((99, 99),), ([], 1, 2))
        for load in ([0, TERA, 0, 0, 0, 0, 0], [0, TERA] + [0] * 20, [2 * TERA + 1]):
            expected = slow_swing(*self.handed[:2], ((TERA, TERA),), (load, 1, 2))
            self.assert_shows(expected, shows_swing, *self.handed[:2], ((TERA, TERA),), (load, 1, 2))

    def test_one_part_otherwise(self):
        for load in ([], [0, 0], [1, 1], [1, 1, 1]):
            answers = self.assert_altered(shows_swing, slow_swing, self.handed, (load, 1, 2))
            self.assertGreater(answers[0], 30)

    def test_things_of_any_make(self):
        self.assert_any_make(shows_swing, self.handed, ([0, 0], 1, 2))
        self.assert_shows(False, shows_swing, *self.handed, ([0, 0], 1, 2, 0))


class Fewest(Papers):

    def setUp(self):
        self.post = swapped(CALLING, (2,), (0, 4))
        self.handed = (self.post, ((0, 2),), 2)
        self.thing = fewest(*self.handed)

    def test_what_fewest_tells(self):
        self.assertEqual((self.thing[0], self.thing[2]), (2, [[1, 2], [2, 2]]))
        self.assert_shows(True, shows_fewest, *self.handed, self.thing)
        none = fewest(self.post, ((0, 1),), 0)
        self.assertEqual(none, (None, None, [[1]] * 5))
        self.assert_shows(True, shows_fewest, self.post, ((0, 1),), 0, none)
        chance = random.Random(178)
        seen = {"some": 0, "none": 0}
        for turn in range(60):
            post, stand, curve = some_case(chance)
            bound = chance.randint(0, 3)
            try:
                told = fewest(post, curve, bound)
            except TooMany:
                continue
            seen["none" if told[0] is None else "some"] += 1
            self.assert_shows(True, shows_fewest, post, curve, bound, told)
        self.assertGreater(min(seen.values()), 10, seen)

    def test_more_than_the_fewest_do_not_show_it(self):
        # With three they are enough, but no load shows that two aren't.
        entries = led(with_most(self.post, 3), first_stand(self.post), ((0, 2),))
        for loads in ([[1, 2], [2, 2]], [[1, 2], [2, 2], [2, 2]], [[1, 2], [2, 2], []]):
            self.assert_shows(False, shows_fewest, *self.handed, (3, entries, loads))

    def test_longer_loads_and_another_order(self):
        many, entries, loads = self.thing
        order, moved = in_another_order(random.Random(179), entries)
        self.assert_shows(True, shows_fewest, *self.handed, (many, moved, [[0, 2, 2], [2, 2, 2, 2]]))
        self.assert_shows(False, shows_fewest, *self.handed, (many, moved, [[2, 2, 2], [2, 1]]))

    def test_loads_too_few_too_many_or_in_another_order(self):
        many, entries, loads = self.thing
        for other in ([], loads[:1], loads[1:], loads + loads[:1], loads + [[2, 2, 2]], tuple(loads), loads[::-1]):
            expected = slow_fewest(*self.handed, (many, entries, other))
            self.assertIs(expected, False)
            self.assert_shows(False, shows_fewest, *self.handed, (many, entries, other))
        for count in range(8):
            self.assert_shows(count == 5, shows_fewest, self.post, ((0, 1),), 0, (None, None, [[1]] * count))

    def test_many_below_the_least_or_above_the_most(self):
        post = swapped(self.post, (2,), (1, 2))
        told = fewest(post, ((0, 2),), 2)
        self.assertEqual(told[0], 2)
        self.assert_shows(True, shows_fewest, post, ((0, 2),), 2, told)
        for many in (-1, 0, 1, 3, 12, 13, None, True):
            self.assert_shows(False, shows_fewest, post, ((0, 2),), 2, (many,) + told[1:])
        # Two are enough, but the post has only one.
        self.assert_shows(False, shows_fewest, swapped(post, (2,), (0, 1)), ((0, 2),), 2, self.thing)
        # None is enough for nothing, but the post has one at the least.
        nothing = fewest(self.post, ((0, 0),), 0)
        self.assertEqual(nothing[0], 0)
        self.assert_shows(True, shows_fewest, self.post, ((0, 0),), 0, nothing)
        self.assert_shows(False, shows_fewest, post, ((0, 0),), 0, nothing)

    def test_none_and_entries_or_many_without_entries(self):
        none = fewest(self.post, ((0, 1),), 0)
        self.assert_shows(False, shows_fewest, self.post, ((0, 1),), 0, (None, [], none[2]))
        self.assert_shows(False, shows_fewest, self.post, ((0, 1),), 0, (None, self.thing[1], none[2]))
        self.assert_shows(False, shows_fewest, *self.handed, (2, None, self.thing[2]))
        self.assert_shows(False, shows_fewest, *self.handed, (None, None, self.thing[2]))

    def test_one_part_otherwise(self):
        answers = self.assert_altered(shows_fewest, slow_fewest, self.handed, self.thing)
        self.assertGreater(answers[0], 500)
        self.assertGreater(answers[1], 0)
        handed = (swapped(FILLING, (2,), (0, 2)), ((0, 1),), 1)
        self.assert_altered(shows_fewest, slow_fewest, handed, fewest(*handed))

    def test_another_post_curve_or_bound(self):
        chance = random.Random(180)
        for turn in range(60):
            post, stand, curve = some_case(chance)
            other_post, other_stand, other_curve = some_case(chance)
            bound = chance.randint(0, 3)
            try:
                told = fewest(post, curve, bound)
            except TooMany:
                continue
            for handed in ((other_post, curve, bound), (post, other_curve, bound), (post, curve, bound + 1),
                           (post, curve, max(bound - 1, 0))):
                self.assert_shows(slow_fewest(*handed, told), shows_fewest, *handed, told)

    def test_things_of_any_make(self):
        self.assert_any_make(shows_fewest, self.handed, self.thing)


if __name__ == "__main__":
    unittest.main()
