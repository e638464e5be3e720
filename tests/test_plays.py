"""How a post goes under a load, and under a steady one for ever ([9], [1] (a))."""

import copy
import random
import unittest

from tests.samples import FILLING, GROWING, NOTHING, PLAIN_POST, PLAIN_STAND, SWINGING, TERA
from tests.samples import kinds_of, slow_beat, some_post, some_stand, swapped
from waithands.alike import alike
from waithands.beats import beat
from waithands.errors import TooLong
from waithands.plays import after, played, rests_at, round_of
from waithands.posts import first_stand

NONE_CALLED = (0, 0, 0, 0, 0)


def some_load(chance, many):
    """A load of so many beats, as a seeded chance gives it."""
    return [chance.choice((0, 0, 1, 2, 5, 30)) for turn in range(many)]


def slow_play(post, stand, load):
    """The pair of what the beats of a load tell and of the stands, the given one first."""
    told, stands = [], [stand]
    for come in load:
        stand, *row = slow_beat(post, stand, come)
        told.append(tuple(row))
        stands.append(stand)
    return told, stands


def slow_round(post, stand, come):
    """The pair (begin, length), each stand compared with all ahead of it."""
    stands = [stand]
    while True:
        stands.append(beat(post, stands[-1], come)[0])
        for begin in range(len(stands) - 1):
            if alike(post, stands[begin], stands[-1]):
                return begin, len(stands) - 1 - begin


class Played(unittest.TestCase):

    def test_the_empty_load(self):
        self.assertEqual(played(PLAIN_POST, PLAIN_STAND, []), [])
        self.assertEqual(after(PLAIN_POST, PLAIN_STAND, []), PLAIN_STAND)

    def test_by_hand(self):
        post = (2, 10, (1, 3), 0, 2, (0, 0), ((("wait", 1, "over", 4, 1), ("wait", 1, "under", 1, -1)),))
        load = [5, 9, 0, 0, 0, 0]
        told = [(2, 0, 0), (2, 2, 1), (4, 0, 0), (4, 0, -1), (0, 0, 0), (0, 0, 0)]
        self.assertEqual(played(post, first_stand(post), load), told)
        stand = (0, 1, NONE_CALLED, 0, 0, (NOTHING, NOTHING, (0, 4, 0)))
        self.assertEqual(after(post, first_stand(post), load), stand)

    def test_one_beat(self):
        stand, *row = beat(PLAIN_POST, PLAIN_STAND, 9)
        self.assertEqual(played(PLAIN_POST, PLAIN_STAND, [9]), [tuple(row)])
        self.assertEqual(after(PLAIN_POST, PLAIN_STAND, [9]), stand)

    def test_several_and_300_beats(self):
        chance = random.Random(90)
        for many in [1, 2, 3, 10, 50] * 8 + [300]:
            post, stand, load = some_post(chance), some_stand(chance), some_load(chance, many)
            told, stands = slow_play(post, stand, load)
            with self.subTest(post=post, stand=stand, load=load):
                self.assertEqual(played(post, stand, load), told)
                self.assertEqual(after(post, stand, load), stands[-1])

    def test_the_rest_of_a_load_from_the_stand_on_the_way(self):
        chance = random.Random(91)
        for turn in range(30):
            post, stand, load = some_post(chance), some_stand(chance), some_load(chance, 20)
            for cut in range(21):
                halfway = after(post, stand, load[:cut])
                self.assertEqual(played(post, halfway, load[cut:]), played(post, stand, load)[cut:])
                self.assertEqual(after(post, halfway, load[cut:]), after(post, stand, load))

    def test_free_is_12(self):
        post = (1, TERA, (0, 12), 0, 1, (0, 0), ((("come", 1, "each", 1, 0),),))
        self.assertEqual(played(post, first_stand(post), [12]), [(0, 0, 12)])

    def test_large_numbers(self):
        post = (10 ** 6, TERA, (12, 12), 0, 1, (0, 0), ())
        work = 12 * 10 ** 6
        self.assertEqual(
            played(post, first_stand(post), [TERA, TERA, TERA - 1]),
            [(work, 0, 0), (work, TERA - work, 0), (work, TERA - 1 - work, 0)],
        )

    def test_what_came_is_done_or_away_or_waits_more(self):
        chance = random.Random(92)
        for turn in range(50):
            post, stand, load = some_post(chance), some_stand(chance), some_load(chance, 40)
            told = played(post, stand, load)
            waits = after(post, stand, load)[0] - stand[0]
            self.assertEqual(sum(load), sum(row[0] + row[1] for row in told) + waits)

    def test_kinds(self):
        told = played(PLAIN_POST, PLAIN_STAND, [1, 2, 3])
        self.assertEqual(kinds_of(told), (list, [(tuple, [int, int, int])] * 3))
        self.assertEqual(kinds_of(after(PLAIN_POST, PLAIN_STAND, [1, 2])), kinds_of(PLAIN_STAND))

    def test_the_load_stays_and_what_is_told_is_the_asker_s_own(self):
        load = [3, 1, 4, 1, 5]
        post, stand = copy.deepcopy((PLAIN_POST, PLAIN_STAND))
        told = played(post, stand, load)
        behind = after(post, stand, load)
        self.assertEqual(load, [3, 1, 4, 1, 5])
        expected = list(told)
        told.append("more")
        told[0] = None
        load.append(9)
        load[0] = 7
        self.assertEqual(played(post, stand, [3, 1, 4, 1, 5]), expected)
        self.assertEqual(after(post, stand, [3, 1, 4, 1, 5]), behind)
        self.assertIsNot(played(post, stand, []), played(post, stand, []))
        empty = []
        self.assertIsNot(played(post, stand, empty), empty)
        self.assertEqual((post, stand), (PLAIN_POST, PLAIN_STAND))


class Rounds(unittest.TestCase):

    def assert_round(self, post, stand, come, begin, length):
        """It is this round, by any most that lets it be, and refused by any less."""
        for most in (begin + length, begin + length + 1, 1000):
            told = round_of(post, stand, come, most)
            self.assertEqual(told, (begin, length))
            self.assertEqual(kinds_of(told), (tuple, [int, int]))
        for most in range(max(begin + length - 3, 1), begin + length):
            with self.assertRaises(TooLong):
                round_of(post, stand, come, most)

    def test_begin_0_and_length_1(self):
        self.assert_round(FILLING, first_stand(FILLING), 0, 0, 1)
        self.assertEqual(round_of(FILLING, first_stand(FILLING), 0, 1), (0, 1))

    def test_begin_above_0_and_length_1(self):
        self.assert_round(FILLING, first_stand(FILLING), 1, 7, 1)
        self.assert_round(FILLING, first_stand(FILLING), 2, 4, 1)
        self.assert_round(FILLING, first_stand(FILLING), TERA, 1, 1)

    def test_begin_0_and_a_longer_round(self):
        post = (1, 9, (1, 1), 0, 3, (0, 0), ())
        self.assert_round(post, first_stand(post), 0, 0, 3)
        for every in range(1, 7):
            post = (1, 9, (1, 1), 0, every, (0, 0), ())
            self.assert_round(post, first_stand(post), 1, 0, every)

    def test_one_that_swings_for_ever(self):
        self.assertEqual([row[2] for row in played(SWINGING, first_stand(SWINGING), [1] * 6)], [1, -1] * 3)
        self.assert_round(SWINGING, first_stand(SWINGING), 1, 0, 2)
        self.assert_round(SWINGING, after(SWINGING, first_stand(SWINGING), [1]), 1, 0, 2)

    def test_begin_and_length_both_above_the_least(self):
        post = swapped(SWINGING, (4,), 2)
        stand = swapped(first_stand(post), (0,), 4)
        begin, length = slow_round(post, stand, 1)
        self.assertGreater(begin, 0)
        self.assertGreater(length, 1)
        self.assert_round(post, stand, 1, begin, length)

    def test_stands_that_are_alike_though_not_the_same(self):
        # No rules: what was seen isn't needed, and since beyond every counts as every less 1.
        post = (1, 9, (0, 0), 0, 2, (0, 0), ())
        stand = (3, 0, NONE_CALLED, 1, 0, ((5, 5, 5), (6, 6, 6), (7, 7, 7)))
        self.assert_round(post, stand, 0, 0, 2)
        self.assert_round(post, swapped(stand, (3,), 5), 0, 0, 2)
        post = (1, 9, (0, 0), 0, 1, (0, 0), ((("done", 2, "over", 50, 1),),))
        self.assert_round(post, swapped(stand, (5, 0, 1), 0), 0, 0, 1)
        self.assert_round(post, stand, 0, 1, 1)

    def test_just_1000_and_more(self):
        post = (1, 1000, (0, 0), 0, 1, (0, 0), ())
        with self.assertRaises(TooLong):
            round_of(post, first_stand(post), 1, 1000)
        self.assertEqual(round_of(post, swapped(first_stand(post), (0,), 1), 1, 1000), (999, 1))
        with self.assertRaises(TooLong):
            round_of(post, swapped(first_stand(post), (0,), 1), 1, 999)

    def test_large_numbers(self):
        post = (1, TERA, (0, 0), 0, 1, (0, 0), ())
        self.assertEqual(round_of(post, first_stand(post), TERA, 9), (1, 1))
        with self.assertRaises(TooLong):
            round_of(post, first_stand(post), 1, 1000)

    def test_each_stand_compared_with_all_ahead(self):
        chance = random.Random(93)
        lengths = set()
        for turn in range(120):
            post, stand, come = some_post(chance), some_stand(chance), chance.choice((0, 1, 2, 5))
            if post[1] == TERA:
                continue
            begin, length = slow_round(post, stand, come)
            lengths.add(length)
            with self.subTest(post=post, stand=stand, come=come):
                self.assert_round(post, stand, come, begin, length)
        self.assertGreater(len(lengths), 4)


class Rests(unittest.TestCase):

    def assert_rests(self, post, stand, come, expected):
        """It rests at this beat; refused just where round_of is."""
        begin, length = round_of(post, stand, come, 1000)
        for most in (begin + length, 1000):
            told = rests_at(post, stand, come, most)
            self.assertEqual(told, expected)
            self.assertIn(type(told), (int, type(None)))
        if begin + length > 1:
            with self.assertRaises(TooLong):
                rests_at(post, stand, come, begin + length - 1)

    def test_from_the_first_beat_on(self):
        self.assert_rests(FILLING, first_stand(FILLING), 1, 0)
        self.assert_rests(FILLING, first_stand(FILLING), 0, 0)
        self.assertEqual(rests_at(FILLING, first_stand(FILLING), 0, 1), 0)

    def test_a_later_beat(self):
        # Changes at the beats 0 and, behind a rest of two, 3.
        self.assertEqual([row[2] for row in played(GROWING, first_stand(GROWING), [3] * 6)], [1, 0, 0, 1, 0, 0])
        self.assert_rests(GROWING, first_stand(GROWING), 3, 4)
        self.assert_rests(GROWING, after(GROWING, first_stand(GROWING), [3]), 3, 3)
        self.assert_rests(GROWING, after(GROWING, first_stand(GROWING), [3] * 3), 3, 1)
        self.assert_rests(GROWING, after(GROWING, first_stand(GROWING), [3] * 4), 3, 0)

    def test_just_ahead_of_the_round(self):
        # The one change is in the very beat that leads into the round.
        post = (1, 9, (2, 2), 0, 1, (0, 0), ())
        stand = swapped(first_stand(post), (1,), 3)
        self.assertEqual(round_of(post, stand, 0, 9), (1, 1))
        self.assert_rests(post, stand, 0, 1)

    def test_none_where_changes_never_end(self):
        self.assert_rests(SWINGING, first_stand(SWINGING), 1, None)
        self.assertIsNone(rests_at(SWINGING, first_stand(SWINGING), 1, 1000))

    def test_one_that_swings_under_one_load_rests_under_another(self):
        self.assert_rests(SWINGING, first_stand(SWINGING), 0, 0)

    def test_too_long_even_where_no_change_ever_comes(self):
        with self.assertRaises(TooLong):
            rests_at(FILLING, first_stand(FILLING), 1, 7)
        self.assertEqual(rests_at(FILLING, first_stand(FILLING), 1, 8), 0)

    def test_too_long_ahead_of_none(self):
        begin, length = round_of(SWINGING, first_stand(SWINGING), 1, 1000)
        with self.assertRaises(TooLong):
            rests_at(SWINGING, first_stand(SWINGING), 1, begin + length - 1)

    def test_no_beat_from_it_on_has_a_change_and_the_one_ahead_has(self):
        chance = random.Random(94)
        answers = set()
        for turn in range(150):
            post, stand, come = some_post(chance), some_stand(chance), chance.choice((0, 1, 2, 5))
            if turn % 2:
                post = swapped(post, (6,), SWINGING[6])
            if post[1] == TERA:
                continue
            begin, length = round_of(post, stand, come, 1000)
            changes = [row[2] for row in played(post, stand, [come] * (begin + 3 * length))]
            told = rests_at(post, stand, come, 1000)
            answers.add(told)
            with self.subTest(post=post, stand=stand, come=come):
                if told is None:
                    self.assertTrue(any(changes[-length:]))
                else:
                    self.assertFalse(any(changes[told:]))
                    self.assertTrue(told == 0 or changes[told - 1] != 0)
        self.assertIn(None, answers)
        self.assertGreater(len(answers), 4)

    def test_twice_the_same_and_nothing_changed(self):
        post, stand = copy.deepcopy((PLAIN_POST, PLAIN_STAND))
        self.assertEqual(round_of(post, stand, 3, 1000), round_of(post, stand, 3, 1000))
        self.assertEqual(rests_at(post, stand, 3, 1000), rests_at(post, stand, 3, 1000))
        self.assertEqual((post, stand), (PLAIN_POST, PLAIN_STAND))


if __name__ == "__main__":
    unittest.main()
