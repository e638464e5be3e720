"""Whether hands come to rest under every steady load ([15], [1] (d))."""

import copy
import random
import unittest

from tests.samples import FILLING, GROWING, PLAIN_POST, PLAIN_STAND, SWINGING
from tests.samples import assert_own, kinds_of, load_by, slow_beat, some_post, some_stand, swapped
from waithands.alike import alike, lean
from waithands.calming import calm
from waithands.curves import spares, within
from waithands.errors import TooMany, TooWide
from waithands.leading import led
from waithands.plays import after, played
from waithands.posts import first_stand

STEADY_CURVES = (((0, 0),), ((2, 0),), ((0, 1),), ((1, 1),), ((0, 2),), ((1, 2), (2, 1)), ((0, 3), (1, 2)), ((2, 2),))


def slow_changes(post, stand, come, many):
    """Whether there was a change, for each of so many beats with come."""
    changes = []
    for turn in range(many):
        stand, done, away, change = slow_beat(post, stand, come)
        changes.append(change != 0)
    return changes


def slow_worth(post, stand, come, many):
    """The worth, of a stand from which less than so many stands can be met; None where it has none."""
    changes = slow_changes(post, stand, come, 2 * many)
    if any(changes[many:]):
        return None
    return 0 if True not in changes else len(changes) - changes[::-1].index(True)


def slow_back(post, stand, come, many):
    """The fewest beats that lead back to the stand with a change on the way, None where none of so many do."""
    at, changed = stand, False
    for length in range(1, many + 1):
        at, done, away, change = slow_beat(post, at, come)
        changed = changed or change != 0
        if alike(post, at, stand):
            return length if changed else None
    return None


def slow_calm(post, stand, curve, limit):
    """What calm tells, entry by entry and beat by beat."""
    entries = led(post, stand, curve, limit)
    many = len(entries)
    all_worths = []
    for come in range(min(rate for burst, rate in curve) + 1):
        worths = [slow_worth(post, entry[0], come, many) for entry in entries]
        if None in worths:
            for place, entry in enumerate(entries):
                length = slow_back(post, entry[0], come, many)
                if length is not None:
                    return ("swings", load_by(entries, place), come, length)
        all_worths.append(worths)
    return ("calm", entries, all_worths)


def some_case(chance):
    """A post that may swing, a stand of it and a curve, as a seeded chance gives them."""
    if chance.random() < 0.3:
        post = swapped(some_post(chance), (1,), chance.choice((0, 2, 5)))
        stand = first_stand(post) if chance.random() < 0.5 else some_stand(chance)
        return post, stand, chance.choice(STEADY_CURVES)
    rows = (("wait", 1, "over", chance.randint(0, 3), 1), ("wait", 1, "under", chance.randint(1, 3), -1))
    pace, room, most = chance.randint(1, 3), chance.randint(2, 5), chance.randint(1, 2)
    post = (pace, room, (0, most), chance.randint(0, 1), 1, (0, chance.randint(0, 1)), (rows,))
    stand = swapped(swapped(first_stand(post), (0,), chance.randint(0, 3)), (1,), chance.randint(0, 2))
    return post, stand, chance.choice(STEADY_CURVES[2:])


class Calming(unittest.TestCase):

    def assert_swings(self, post, stand, curve, told):
        """Behind the load, length beats lead back with a change, and the curve lets all of it come for ever."""
        how, load, come, length = told
        self.assertIs(within(curve, load + [come] * 50), True)
        there = after(post, stand, load)
        self.assertIs(alike(post, there, after(post, there, [come] * length)), True)
        self.assertTrue(any(row[2] for row in played(post, there, [come] * length)))


class Calm(Calming):

    def test_no_change_ever(self):
        stand = first_stand(FILLING)
        for curve, many in ((((0, 0),), 1), (((3, 0),), 1), (((0, 1),), 2), (((1, 2),), 3), (((1, 2), (4, 1)), 2)):
            entries = led(FILLING, stand, curve)
            self.assertEqual(calm(FILLING, stand, curve), ("calm", entries, [[0] * len(entries)] * many))

    def test_by_hand(self):
        # Behind the change at the first beat it rests for two, and calls the other hand at the fourth.
        post = swapped(GROWING, (1,), 2)
        how, entries, worths = calm(post, first_stand(post), ((0, 1),))
        self.assertEqual((how, len(worths)), ("calm", 2))
        self.assertEqual(entries, led(post, first_stand(post), ((0, 1),)))
        self.assertEqual([len(row) for row in worths], [len(entries)] * 2)
        self.assertEqual(worths[0][0], 0)
        changes = [row[2] for row in played(post, first_stand(post), [1] * 12)]
        self.assertEqual(worths[1][0], max(place for place, change in enumerate(changes) if change) + 1)

    def test_a_rate_of_0(self):
        # Only nothing comes steadily, whatever bursts may come ahead.
        how, entries, worths = calm(SWINGING, first_stand(SWINGING), ((3, 0),))
        self.assertEqual((how, len(worths)), ("calm", 1))
        self.assertEqual(worths[0], [slow_worth(SWINGING, entry[0], 0, len(entries)) for entry in entries])
        self.assertGreater(max(worths[0]), 1)
        self.assertEqual(calm(SWINGING, first_stand(SWINGING), ((3, 0), (1, 2)))[0], "calm")

    def test_the_least_of_several_rates(self):
        stand = first_stand(FILLING)
        for curve, many in ((((0, 3), (0, 2)), 3), (((0, 2), (0, 3), (0, 4)), 3), (((0, 4), (0, 1), (0, 3)), 2)):
            self.assertEqual(len(calm(FILLING, stand, curve)[2]), many)
        self.assertEqual(calm(SWINGING, stand, ((0, 3), (2, 0)))[0], "calm")
        self.assertEqual(calm(SWINGING, stand, ((0, 3), (2, 1)))[0], "swings")

    def test_worths_fall_by_one_and_stay_at_0(self):
        post = swapped(GROWING, (1,), 3)
        how, entries, worths = calm(post, first_stand(post), ((1, 1),), 600)
        stands = [entry[0] for entry in entries]
        self.assertEqual(how, "calm")
        for come, row in enumerate(worths):
            for place, stand in enumerate(stands):
                behind = lean(post, after(post, stand, [come]))
                change = played(post, stand, [come])[0][2]
                worth = row[stands.index(behind)]
                self.assertEqual(worth, max(row[place] - 1, 0))
                self.assertTrue(row[place] > 0 or change == 0)
        self.assertGreater(max(worths[1]), 2)


class Swings(Calming):

    def test_from_the_given_stand_on(self):
        self.assertEqual(calm(SWINGING, first_stand(SWINGING), ((0, 1),)), ("swings", [], 1, 2))
        self.assertEqual(calm(SWINGING, first_stand(SWINGING), ((3, 2),), 600), ("swings", [], 1, 2))

    def test_from_a_stand_that_only_runs_into_it(self):
        stand = swapped(first_stand(SWINGING), (0,), 6)
        told = calm(SWINGING, stand, ((0, 1),))
        self.assertEqual(told, slow_calm(SWINGING, stand, ((0, 1),), 300))
        how, load, come, length = told
        self.assertEqual((how, come, length), ("swings", 1, 2))
        self.assertNotEqual(load, [])
        self.assertIsNone(slow_back(SWINGING, stand, 1, 50))
        self.assertIsNone(slow_worth(SWINGING, stand, 1, 50))

    def test_the_least_come_though_others_swing_too(self):
        # It swings under 2 and under 3, not under 0 or 1.
        rows = (("come", 1, "under", 2, -1), ("wait", 1, "over", 0, 1), ("wait", 1, "under", 1, -1))
        post = (5, 9, (0, 1), 0, 1, (0, 0), (rows,))
        how, load, come, length = calm(post, first_stand(post), ((0, 3),), 600)
        self.assertEqual((how, come), ("swings", 2))
        self.assertEqual((how, load, come, length), slow_calm(post, first_stand(post), ((0, 3),), 600))
        self.assertEqual(calm(post, first_stand(post), ((0, 1),))[0], "calm")

    def test_a_longer_way_back(self):
        post = swapped(swapped(SWINGING, (3,), 3), (5,), (2, 4))
        told = calm(post, first_stand(post), ((0, 1),))
        self.assertEqual(told, slow_calm(post, first_stand(post), ((0, 1),), 300))
        self.assertEqual(told[0], "swings")
        self.assertGreater(told[3], 4)

    def test_the_first_entry_by_its_stand_whatever_its_spares(self):
        # The burst that leads to the swing lowers the spares, and behind the way back they are higher again.
        rules = ((("wait", 1, "over", 1, 1), ("wait", 1, "under", 2, -1)),)
        post = (2, 3, (0, 2), 0, 1, (0, 0), rules)
        stand = (2, 2, (0, 0, 0, 0, 0), 0, 0, ((0, 0, 0), (0, 0, 0), (0, 0, 0)))
        curve = ((2, 2),)
        self.assertEqual(calm(post, stand, curve), ("swings", [0, 3], 1, 2))
        self.assertEqual(spares(curve, [0, 3]), (1,))
        self.assertEqual(spares(curve, [0, 3, 1, 1]), (2,))
        self.assert_swings(post, stand, curve, calm(post, stand, curve))

    def test_a_swing_that_only_a_burst_leads_to(self):
        rules = ((("wait", 1, "over", 3, 1), ("wait", 1, "under", 3, -1)),)
        post = (2, 5, (0, 1), 1, 1, (0, 0), rules)
        stand = (1, 1, (0, 0, 0, 0, 0), 0, 0, ((0, 0, 0), (0, 0, 0), (0, 0, 0)))
        self.assertEqual(calm(post, stand, ((2, 2),)), ("swings", [3], 1, 5))
        self.assert_swings(post, stand, ((2, 2),), ("swings", [3], 1, 5))


class Both(Calming):

    def test_entry_by_entry_and_beat_by_beat(self):
        chance = random.Random(152)
        seen = {"calm": 0, "swings": 0, "behind a load": 0, "spares aside": 0}
        for turn in range(250):
            post, stand, curve = some_case(chance)
            try:
                led(post, stand, curve, 60)
            except TooMany:
                with self.assertRaises(TooMany):
                    calm(post, stand, curve, 60)
                continue
            told = calm(post, stand, curve, 60)
            with self.subTest(post=post, stand=stand, curve=curve):
                self.assertEqual(told, slow_calm(post, stand, curve, 60))
            seen[told[0]] += 1
            if told[0] == "swings":
                self.assert_swings(post, stand, curve, told)
                how, load, come, length = told
                seen["behind a load"] += load != []
                seen["spares aside"] += spares(curve, load) != spares(curve, load + [come] * length)
        self.assertGreater(min(seen.values()), 5, seen)


class Asked(unittest.TestCase):

    def test_refused_as_led(self):
        with self.assertRaises(TooWide):
            calm(FILLING, first_stand(FILLING), ((24, 0),), 1)
        with self.assertRaises(TooWide):
            calm(FILLING, first_stand(FILLING), ((30, 0), (12, 12)))
        for limit in range(1, 8):
            with self.assertRaises(TooMany):
                calm(FILLING, first_stand(FILLING), ((0, 1),), limit)
        self.assertEqual(calm(FILLING, first_stand(FILLING), ((0, 1),), 8)[0], "calm")
        # Refused though it swings from the very first stand on.
        many = len(led(SWINGING, first_stand(SWINGING), ((0, 1),)))
        with self.assertRaises(TooMany):
            calm(SWINGING, first_stand(SWINGING), ((0, 1),), many - 1)
        self.assertEqual(calm(SWINGING, first_stand(SWINGING), ((0, 1),), many)[0], "swings")

    def test_a_limit_left_out_is_300(self):
        post = swapped(FILLING, (1,), 299)
        self.assertEqual(len(calm(post, first_stand(post), ((0, 1),))[1]), 300)
        with self.assertRaises(TooMany):
            calm(swapped(FILLING, (1,), 300), first_stand(post), ((0, 1),))
        post = swapped(FILLING, (1,), 599)
        self.assertEqual(calm(post, first_stand(post), ((0, 1),), 600)[2], [[0] * 600] * 2)

    def test_kinds(self):
        told = calm(FILLING, first_stand(FILLING), ((0, 1),))
        kinds = kinds_of(led(FILLING, first_stand(FILLING), ((0, 1),)))
        self.assertEqual(kinds_of(told), (tuple, [str, kinds, (list, [(list, [int] * 8)] * 2)]))
        stand = swapped(first_stand(SWINGING), (0,), 6)
        how, load, come, length = calm(SWINGING, stand, ((0, 1),))
        self.assertEqual(kinds_of((load, come, length)), (tuple, [(list, [int] * len(load)), int, int]))

    def test_told_lists_are_the_asker_s_own_whatever_was_asked_ahead(self):
        def all_asked():
            return [
                calm(FILLING, first_stand(FILLING), ((0, 2),)),
                calm(SWINGING, first_stand(SWINGING), ((2, 0),)),
                calm(SWINGING, first_stand(SWINGING), ((0, 1),)),
                calm(SWINGING, swapped(first_stand(SWINGING), (0,), 6), ((0, 1),)),
            ]

        assert_own(self, all_asked)

    def test_what_is_handed_in_stays(self):
        post, stand, curve = copy.deepcopy((PLAIN_POST, PLAIN_STAND, ((0, 0), (1, 1))))
        calm(post, stand, curve)
        self.assertEqual((post, stand, curve), (PLAIN_POST, PLAIN_STAND, ((0, 0), (1, 1))))


if __name__ == "__main__":
    unittest.main()
