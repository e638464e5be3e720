"""All that loads within a curve lead to, and the bounds they keep ([13], [14], [1] (c))."""

import copy
import random
import unittest

from tests.samples import FILLING, NOTHING, PLAIN_POST, PLAIN_STAND, SWINGING, TERA
from tests.samples import assert_own, kinds_of, load_by, loads_within, slow_beat, slow_spares
from tests.samples import some_post, some_stand, swapped
from waithands.alike import lean
from waithands.beats import beat
from waithands.curves import most_next, spares, spares_next, within
from waithands.errors import TooMany, TooWide
from waithands.leading import least_bound, led, opened
from waithands.plays import after, played
from waithands.posts import first_stand

NONE_CALLED = (0, 0, 0, 0, 0)
UNSEEN = (NOTHING, NOTHING, NOTHING)

# One hand does one unit a beat, and the work waits for it.
WORKING = (1, 50, (1, 1), 0, 1, (0, 0), ())
# It goes by what came in two beats, calls hands and sends them home.
WATCHING = (1, 3, (1, 2), 1, 2, (1, 0), ((("come", 2, "over", 1, 1), ("wait", 1, "under", 1, -1)),))

SMALL_CURVES = (((0, 0),), ((0, 1),), ((2, 0),), ((1, 1),), ((2, 1),), ((3, 1), (1, 2)), ((2, 0), (1, 1), (0, 2)))


def filling(room):
    """A post without hands that fills up to its room."""
    return swapped(FILLING, (1,), room)


def waiting(post, wait):
    """The post's first stand, but so much waits."""
    return swapped(first_stand(post), (0,), wait)


def slow_after(post, stand, load):
    """The stand behind a load, and what the last beat sent away."""
    away = 0
    for come in load:
        stand, done, away, change = slow_beat(post, stand, come)
    return stand, away


def slow_led(post, stand, curve, longest):
    """The entries that loads of at most so many beats lead to, load by load."""
    entries, places, ways = [], {}, {}
    for load in loads_within(curve, longest):
        key = (lean(post, slow_after(post, stand, load)[0]), slow_spares(curve, load))
        if key not in places:
            places[key] = len(entries)
            entries.append(key + ((ways[tuple(load[:-1])], load[-1]) if load else (None, None)))
        ways[tuple(load)] = places[key]
    return entries


def slow_broken(post, stand, curve, longest, breaks):
    """The first load of at most so many beats whose last beat breaks, by what waits and is sent away; else None."""
    for load in loads_within(curve, longest):
        behind, away = slow_after(post, stand, load)
        if load and breaks(behind[0], away):
            return load
    return None


def some_small_case(chance):
    """A post, a stand of it and a curve of few loads, as a seeded chance gives them."""
    post = some_post(chance)
    if chance.random() < 0.5:
        post = swapped(swapped(post, (1,), chance.choice((1, 3, 6))), (2,), (0, chance.randint(0, 2)))
    stand = first_stand(post) if chance.random() < 0.4 else some_stand(chance)
    return post, stand, chance.choice(SMALL_CURVES)


class Led(unittest.TestCase):

    def assert_closed(self, post, stand, curve, entries):
        """The entries are as told: in order, none twice, and nothing leads out of the list."""
        self.assertEqual(entries[0], (lean(post, stand), tuple(burst for burst, rate in curve), None, None))
        keys = [entry[:2] for entry in entries]
        self.assertEqual(len(set(keys)), len(keys))
        met = 1
        for place, (at, spare, came_from, come) in enumerate(entries):
            self.assertEqual(lean(post, at), at)
            for units in range(most_next(curve, spare) + 1):
                key = (lean(post, beat(post, at, units)[0]), spares_next(curve, spare, units))
                self.assertIn(key, keys)
                if keys.index(key) == met:
                    self.assertEqual(entries[met][2:], (place, units))
                    met += 1
                self.assertLess(keys.index(key), met)
        self.assertEqual(met, len(entries))

    def test_by_hand(self):
        post = filling(2)
        seen = UNSEEN
        self.assertEqual(led(post, first_stand(post), ((0, 1),)), [
            ((0, 0, NONE_CALLED, 0, 0, seen), (0,), None, None),
            ((1, 0, NONE_CALLED, 0, 0, seen), (0,), 0, 1),
            ((2, 0, NONE_CALLED, 0, 0, seen), (0,), 1, 1),
        ])
        self.assertEqual(led(post, first_stand(post), ((2, 0),)), [
            ((0, 0, NONE_CALLED, 0, 0, seen), (2,), None, None),
            ((1, 0, NONE_CALLED, 0, 0, seen), (1,), 0, 1),
            ((2, 0, NONE_CALLED, 0, 0, seen), (0,), 0, 2),
        ])

    def test_entries_in_order_and_comes_from_0_up(self):
        entries = led(WORKING, first_stand(WORKING), ((2, 1),))
        self.assertEqual([(entry[0][0],) + entry[1:] for entry in entries], [
            (0, (2,), None, None),
            (1, (1,), 0, 2),
            (2, (0,), 0, 3),
        ])
        entries = led(WORKING, first_stand(WORKING), ((2, 1), (1, 2)))
        self.assertEqual([(entry[0][0],) + entry[1:] for entry in entries], [
            (0, (2, 1), None, None),
            (1, (1, 1), 0, 2),
            (2, (0, 0), 0, 3),
            (2, (0, 1), 1, 2),
        ])

    def test_nothing_may_come(self):
        post = filling(2)
        self.assertEqual(led(post, first_stand(post), ((0, 0),)), [(first_stand(post), (0,), None, None)])
        self.assertEqual(led(post, first_stand(post), ((5, 3), (0, 0))), [(first_stand(post), (5, 0), None, None)])

    def test_a_stand_that_is_not_lean(self):
        for since in range(1, 6):
            stand = (1, 0, NONE_CALLED, since, 0, ((7, 7, 7), (8, 8, 8), (9, 9, 9)))
            entries = led(WATCHING, stand, ((1, 1),))
            lean_stand = (1, 0, NONE_CALLED, 1, 0, ((7, 0, 0), NOTHING, NOTHING))
            self.assertEqual(entries[0], (lean_stand, (1,), None, None))
            self.assertEqual(entries, led(WATCHING, lean_stand, ((1, 1),)))
            self.assert_closed(WATCHING, stand, ((1, 1),), entries)

    def test_alike_stands_lead_to_the_same_list(self):
        chance = random.Random(130)
        for turn in range(60):
            post, stand, curve = some_small_case(chance)
            try:
                entries = led(post, stand, curve, 200)
            except TooMany:
                with self.assertRaises(TooMany):
                    led(post, lean(post, stand), curve, 200)
            else:
                self.assertEqual(led(post, lean(post, stand), curve, 200), entries)

    def test_nothing_leads_out_and_each_from_leads_there(self):
        chance = random.Random(131)
        kept = 0
        for turn in range(120):
            post, stand, curve = some_small_case(chance)
            try:
                entries = led(post, stand, curve, 150)
            except TooMany:
                continue
            kept += 1
            with self.subTest(post=post, stand=stand, curve=curve):
                self.assert_closed(post, stand, curve, entries)
                for place in range(len(entries)):
                    load = load_by(entries, place)
                    self.assertIs(within(curve, load), True)
                    self.assertEqual(spares(curve, load), entries[place][1])
                    self.assertEqual(lean(post, after(post, stand, load)), entries[place][0])
        self.assertGreater(kept, 60)

    def test_load_by_load(self):
        chance = random.Random(132)
        for turn in range(60):
            post, stand, curve = some_small_case(chance)
            longest = 7 if curve in SMALL_CURVES[:4] else 4
            expected = slow_led(post, stand, curve, longest)
            try:
                entries = led(post, stand, curve, 600)
            except TooMany:
                continue
            near = [entry for place, entry in enumerate(entries) if len(load_by(entries, place)) <= longest]
            with self.subTest(post=post, stand=stand, curve=curve):
                self.assertEqual(near, expected)

    def test_23_units_and_24(self):
        post = filling(0)
        for curve in (((23, 0),), ((0, 23),), ((20, 3),), ((20, 3), (99, 99)), ((TERA, TERA), (11, 12))):
            entries = led(post, first_stand(post), curve, 600)
            self.assertEqual(entries[0][1], tuple(burst for burst, rate in curve))
        for curve in (((24, 0),), ((0, 24),), ((20, 4),), ((21, 3), (99, 99)), ((TERA, TERA), (TERA, 9), (12, 12))):
            for limit in (1, 300, 600):
                with self.assertRaises(TooWide):
                    led(post, first_stand(post), curve, limit)
            with self.assertRaises(TooWide):
                led(post, first_stand(post), curve)

    def test_all_23_units_are_tried(self):
        post = filling(30)
        entries = led(post, first_stand(post), ((23, 0),), 600)
        self.assertEqual([entry[3] for entry in entries if entry[2] == 0], list(range(1, 24)))

    def test_just_as_many_entries_as_the_limit(self):
        for room in (0, 1, 5, 40):
            post = filling(room)
            for limit in (room + 1, room + 2, 600):
                self.assertEqual(len(led(post, first_stand(post), ((0, 1),), limit)), room + 1)
            for limit in range(1, room + 1):
                with self.assertRaises(TooMany):
                    led(post, first_stand(post), ((0, 1),), limit)
        chance = random.Random(133)
        for turn in range(40):
            post, stand, curve = some_small_case(chance)
            try:
                entries = led(post, stand, curve, 100)
            except TooMany:
                continue
            self.assertEqual(led(post, stand, curve, len(entries)), entries)
            if len(entries) > 1:
                with self.assertRaises(TooMany):
                    led(post, stand, curve, len(entries) - 1)

    def test_a_limit_left_out_is_300(self):
        self.assertEqual(len(led(filling(299), first_stand(filling(299)), ((0, 1),))), 300)
        with self.assertRaises(TooMany):
            led(filling(300), first_stand(filling(300)), ((0, 1),))
        self.assertEqual(len(led(filling(599), first_stand(filling(599)), ((0, 1),), 600)), 600)
        with self.assertRaises(TooMany):
            led(filling(600), first_stand(filling(600)), ((0, 1),), 600)

    def test_free_is_12(self):
        post = (1, 50, (0, 12), 0, 1, (0, 0), ((("come", 1, "each", 1, 0),),))
        entries = led(post, first_stand(post), ((12, 0),), 600)
        self.assertIn(12, [entry[0][2][0] for entry in entries])

    def test_large_numbers(self):
        post = filling(TERA)
        stand = waiting(post, 10 * TERA)
        self.assertEqual([entry[0][0] for entry in led(post, stand, ((0, 5),))], [10 * TERA])
        stand = waiting(post, TERA - 2)
        self.assertEqual([entry[0][0] for entry in led(post, stand, ((0, 5),))], [TERA - 2, TERA - 1, TERA])


class Opened(unittest.TestCase):

    def test_kept_just_kept_and_one_less(self):
        stand = first_stand(WORKING)
        entries = led(WORKING, stand, ((3, 1),))
        for bound in (3, 4, 50, TERA):
            self.assertEqual(opened(WORKING, stand, ((3, 1),), bound), ("kept", entries))
        self.assertEqual(opened(WORKING, stand, ((3, 1),), 2), ("broken", [4]))
        self.assertEqual(opened(WORKING, stand, ((3, 1),), 1), ("broken", [3]))
        self.assertEqual(opened(WORKING, stand, ((3, 1),), 0), ("broken", [2]))

    def test_broken_in_the_first_beat_by_what_waits(self):
        post = filling(9)
        self.assertEqual(opened(post, first_stand(post), ((0, 3),), 0), ("broken", [1]))
        self.assertEqual(opened(post, first_stand(post), ((0, 3),), 2), ("broken", [3]))

    def test_broken_in_the_first_beat_by_what_is_sent_away(self):
        post = filling(2)
        self.assertEqual(opened(post, first_stand(post), ((0, 3),), 2), ("broken", [3]))
        self.assertEqual(opened(post, first_stand(post), ((0, 3),), TERA), ("broken", [3]))
        self.assertEqual(opened(filling(0), first_stand(post), ((1, 0),), TERA), ("broken", [1]))

    def test_what_is_sent_away_breaks_though_little_waits_behind(self):
        post = (5, 2, (1, 1), 0, 1, (0, 0), ())
        self.assertEqual(opened(post, first_stand(post), ((1, 2),), 0), ("broken", [3]))
        self.assertEqual(opened(post, first_stand(post), ((0, 2),), 0)[0], "kept")

    def test_broken_behind_several_beats(self):
        post = filling(6)
        stand = first_stand(post)
        self.assertEqual(opened(post, stand, ((0, 1),), 4), ("broken", [1] * 5))
        self.assertEqual(opened(post, stand, ((0, 1),), 5), ("broken", [1] * 6))
        self.assertEqual(opened(post, stand, ((0, 1),), 6), ("broken", [1] * 7))
        self.assertEqual(opened(post, stand, ((6, 0),), 6)[0], "kept")
        self.assertEqual(opened(post, stand, ((7, 0),), 6), ("broken", [7]))

    def test_of_the_shortest_the_least(self):
        post = filling(9)
        # Each of 2, 3; 3, 2; 3, 3 .. breaks a bound of 4 in two beats.
        self.assertEqual(opened(post, first_stand(post), ((0, 3),), 4), ("broken", [2, 3]))
        self.assertEqual(opened(post, first_stand(post), ((0, 3),), 3), ("broken", [1, 3]))
        self.assertEqual(opened(post, first_stand(post), ((1, 2),), 4), ("broken", [2, 3]))
        self.assertEqual(opened(post, first_stand(post), ((5, 0), (1, 2)), 4), ("broken", [2, 3]))

    def test_more_waits_than_bound_already(self):
        stand = waiting(WORKING, 6)
        self.assertEqual(opened(WORKING, stand, ((0, 0),), 5), ("kept", led(WORKING, stand, ((0, 0),))))
        self.assertEqual(opened(WORKING, stand, ((0, 0),), 4), ("broken", [0]))
        self.assertEqual(opened(WORKING, stand, ((0, 1),), 5), ("broken", [1]))
        self.assertEqual(opened(WORKING, waiting(WORKING, 60), ((0, 1),), 59), ("broken", [1]))
        self.assertEqual(opened(WORKING, waiting(WORKING, 60), ((0, 0),), 59)[0], "kept")

    def test_the_limit_ahead_of_a_beat_that_breaks(self):
        post = filling(50)
        stand = first_stand(post)
        # The bound 9 breaks by the tenth unit, which would lead to the eleventh entry too.
        for limit in (10, 11, 300, 600):
            self.assertEqual(opened(post, stand, ((0, 1),), 9, limit), ("broken", [1] * 10))
        for limit in range(1, 10):
            with self.assertRaises(TooMany):
                opened(post, stand, ((0, 1),), 9, limit)
        with self.assertRaises(TooMany):
            opened(post, stand, ((0, 1),), 10, 10)

    def test_the_limit_within_one_entry(self):
        post = filling(50)
        stand = first_stand(post)
        # By 1 and 2 two entries more are met ahead of the 3 that breaks.
        self.assertEqual(opened(post, stand, ((0, 3),), 2, 3), ("broken", [3]))
        with self.assertRaises(TooMany):
            opened(post, stand, ((0, 3),), 2, 2)
        self.assertEqual(opened(post, stand, ((0, 3),), 0, 1), ("broken", [1]))
        with self.assertRaises(TooMany):
            opened(post, stand, ((0, 3),), 1, 1)

    def test_kept_needs_the_limit_too(self):
        entries = led(WORKING, first_stand(WORKING), ((3, 1),))
        self.assertEqual(opened(WORKING, first_stand(WORKING), ((3, 1),), 3, len(entries)), ("kept", entries))
        with self.assertRaises(TooMany):
            opened(WORKING, first_stand(WORKING), ((3, 1),), 3, len(entries) - 1)

    def test_a_limit_left_out_is_300(self):
        post = filling(TERA)
        self.assertEqual(opened(post, first_stand(post), ((0, 1),), 299), ("broken", [1] * 300))
        with self.assertRaises(TooMany):
            opened(post, first_stand(post), ((0, 1),), 300)
        self.assertEqual(opened(post, first_stand(post), ((0, 1),), 599, 600), ("broken", [1] * 600))

    def test_too_wide_ahead_of_all_else(self):
        post = filling(2)
        for curve in (((24, 0),), ((1, 23), (99, 99))):
            for bound, limit in ((0, 1), (0, 300), (TERA, 1), (TERA, 600)):
                with self.assertRaises(TooWide):
                    opened(post, first_stand(post), curve, bound, limit)
        self.assertEqual(opened(post, first_stand(post), ((23, 0),), TERA, 4), ("broken", [3]))

    def test_a_slow_search_of_all_loads(self):
        chance = random.Random(134)
        answers = {"kept": 0, "broken": 0}
        lengths = set()
        for turn in range(150):
            post, stand, curve = some_small_case(chance)
            bound = chance.randint(0, 8)
            longest = 7 if curve in SMALL_CURVES[:4] else 4
            expected = slow_broken(post, stand, curve, longest, lambda wait, away: wait > bound or away > 0)
            try:
                how, shown = opened(post, stand, curve, bound, 600)
            except TooMany:
                self.assertIsNone(expected)
                continue
            answers[how] += 1
            with self.subTest(post=post, stand=stand, curve=curve, bound=bound):
                if expected is not None or (how == "broken" and len(shown) <= longest):
                    self.assertEqual((how, shown), ("broken", expected))
                    lengths.add(len(shown))
                if how == "kept":
                    self.assertEqual(shown, led(post, stand, curve, 600))
                else:
                    self.assert_breaks(post, stand, curve, bound, shown)
        self.assertGreater(min(answers.values()), 25)
        self.assertGreater(len(lengths), 3)

    def assert_breaks(self, post, stand, curve, bound, load):
        """The load is within the curve, its last beat breaks the bound and none ahead does."""
        self.assertIs(within(curve, load), True)
        breaks = []
        for many, (done, away, change) in enumerate(played(post, stand, load), start=1):
            breaks.append(away > 0 or after(post, stand, load[:many])[0] > bound)
        self.assertEqual(breaks, [False] * (len(load) - 1) + [True])


class LeastBound(unittest.TestCase):

    def test_by_hand(self):
        self.assertEqual(least_bound(WORKING, first_stand(WORKING), ((3, 1),)), (3, [4]))
        self.assertEqual(least_bound(WORKING, first_stand(WORKING), ((0, 1),)), (0, []))
        self.assertEqual(least_bound(WORKING, waiting(WORKING, 2), ((0, 2),), 600), (None, [2] * 48))
        post = filling(7)
        self.assertEqual(least_bound(post, first_stand(post), ((7, 0),)), (7, [7]))
        self.assertEqual(least_bound(post, first_stand(post), ((8, 0),)), (None, [8]))

    def test_no_beats_where_it_is_the_given_stand_s(self):
        self.assertEqual(least_bound(WORKING, waiting(WORKING, 6), ((0, 1),)), (6, []))
        self.assertEqual(least_bound(WORKING, waiting(WORKING, 6), ((0, 0),)), (6, []))
        self.assertEqual(least_bound(WORKING, waiting(WORKING, 60), ((0, 0),)), (60, []))
        # A bound of one less is kept here: only beats break one.
        self.assertEqual(opened(WORKING, waiting(WORKING, 6), ((0, 0),), 5)[0], "kept")

    def test_of_several_loads_the_shortest_and_of_these_the_least(self):
        post = filling(5)
        self.assertEqual(least_bound(post, first_stand(post), ((5, 0), (0, 3))), (5, [2, 3]))
        self.assertEqual(least_bound(post, first_stand(post), ((5, 0), (1, 1))), (5, [1, 1, 1, 2]))

    def test_something_is_sent_away(self):
        post = filling(3)
        self.assertEqual(least_bound(post, first_stand(post), ((0, 1),)), (None, [1] * 4))
        self.assertEqual(least_bound(post, first_stand(post), ((4, 0),)), (None, [4]))
        self.assertEqual(least_bound(post, first_stand(post), ((4, 0), (0, 3))), (None, [1, 3]))
        self.assertEqual(least_bound(post, waiting(post, 9), ((1, 0),)), (None, [1]))

    def test_refused_as_led_ahead_of_all_else(self):
        post = filling(3)
        self.assertEqual(least_bound(post, first_stand(post), ((0, 1),), 4), (None, [1] * 4))
        for limit in (1, 2, 3):
            with self.assertRaises(TooMany):
                least_bound(post, first_stand(post), ((0, 1),), limit)
        # The very first beat may send away, yet the entries are too many.
        with self.assertRaises(TooMany):
            least_bound(post, first_stand(post), ((0, 4),), 3)
        with self.assertRaises(TooWide):
            least_bound(post, first_stand(post), ((24, 0),), 1)
        with self.assertRaises(TooWide):
            least_bound(post, first_stand(post), ((1, 23), (24, 1)))
        with self.assertRaises(TooMany):
            least_bound(filling(300), first_stand(post), ((0, 1),))
        self.assertEqual(least_bound(filling(299), first_stand(post), ((0, 1),)), (None, [1] * 300))

    def test_in_agreement_with_opened_and_a_slow_search(self):
        chance = random.Random(135)
        seen = {"none": 0, "given": 0, "led": 0}
        for turn in range(150):
            post, stand, curve = some_small_case(chance)
            longest = 7 if curve in SMALL_CURVES[:4] else 4
            try:
                entries = led(post, stand, curve, 300)
            except TooMany:
                with self.assertRaises(TooMany):
                    least_bound(post, stand, curve)
                continue
            bound, load = least_bound(post, stand, curve)
            with self.subTest(post=post, stand=stand, curve=curve):
                self.assertIs(within(curve, load), True)
                if bound is None:
                    seen["none"] += 1
                    self.assert_sends_away(post, stand, curve, load, longest)
                    continue
                seen["led" if load else "given"] += 1
                self.assertEqual(bound, max(entry[0][0] for entry in entries))
                self.assertEqual(after(post, stand, load)[0], bound)
                self.assertEqual(opened(post, stand, curve, bound), ("kept", entries))
                self.assertEqual(load == [], stand[0] == bound)
                if load:
                    self.assertEqual(opened(post, stand, curve, bound - 1), ("broken", load))
                    if len(load) <= longest:
                        by_hand = slow_broken(post, stand, curve, longest, lambda wait, away: wait >= bound)
                        self.assertEqual(load, by_hand)
        self.assertGreater(min(seen.values()), 15)

    def assert_sends_away(self, post, stand, curve, load, longest):
        """The last beat sends away, and of all loads that do so it is the shortest and least."""
        aways = [row[1] > 0 for row in played(post, stand, load)]
        self.assertEqual(aways, [False] * (len(load) - 1) + [True])
        self.assertEqual(opened(post, stand, curve, 100 * TERA), ("broken", load))
        if len(load) <= longest:
            self.assertEqual(load, slow_broken(post, stand, curve, longest, lambda wait, away: away > 0))


class Asked(unittest.TestCase):

    def test_kinds(self):
        curve = ((2, 1), (1, 2))
        entry = (tuple, [kinds_of(PLAIN_STAND), (tuple, [int, int]), int, int])
        first = (tuple, entry[1][:2] + [type(None), type(None)])
        stand = swapped(PLAIN_STAND, (0,), 0)
        entries = led(WATCHING, stand, curve)
        self.assertEqual(kinds_of(entries), (list, [first] + [entry] * (len(entries) - 1)))
        how, shown = opened(SWINGING, first_stand(SWINGING), ((2, 1),), 9)
        self.assertEqual((how, type(shown)), ("kept", list))
        told = opened(filling(2), first_stand(FILLING), ((0, 1),), 1)
        self.assertEqual(kinds_of(told), (tuple, [str, (list, [int] * 2)]))
        self.assertEqual(kinds_of(least_bound(WORKING, first_stand(WORKING), ((3, 1),))), (tuple, [int, (list, [int])]))
        self.assertEqual(
            kinds_of(least_bound(filling(1), first_stand(FILLING), ((0, 1),))),
            (tuple, [type(None), (list, [int, int])]),
        )

    def test_told_lists_are_the_asker_s_own_whatever_was_asked_ahead(self):
        def all_asked():
            stand = first_stand(WATCHING)
            return [
                led(WATCHING, stand, ((2, 1),)),
                opened(WATCHING, stand, ((2, 1),), 9),
                opened(WATCHING, stand, ((2, 1),), 1),
                opened(WATCHING, stand, ((2, 1),), 0),
                least_bound(WATCHING, stand, ((2, 1),)),
                least_bound(filling(2), first_stand(FILLING), ((0, 1),)),
                least_bound(WORKING, first_stand(WORKING), ((0, 1),)),
            ]

        assert_own(self, all_asked)

    def test_in_another_order_the_same(self):
        cases = [(WATCHING, 2), (WORKING, 1), (filling(3), 3), (SWINGING, 5)]
        told = [[opened(post, first_stand(post), ((2, 1),), bound) for bound in range(5)] for post, most in cases]
        for place in reversed(range(len(cases))):
            post = cases[place][0]
            for bound in reversed(range(5)):
                self.assertEqual(opened(post, first_stand(post), ((2, 1),), bound), told[place][bound])
                least_bound(post, first_stand(post), ((2, 1),))
                led(post, first_stand(post), ((1, 1),))

    def test_what_is_handed_in_stays(self):
        post, stand, curve = copy.deepcopy((PLAIN_POST, PLAIN_STAND, ((2, 0), (1, 1))))
        for deed in (led, least_bound):
            try:
                deed(post, stand, curve, 50)
            except TooMany:
                pass
        opened(post, stand, curve, 5)
        self.assertEqual((post, stand, curve), (PLAIN_POST, PLAIN_STAND, ((2, 0), (1, 1))))


if __name__ == "__main__":
    unittest.main()
