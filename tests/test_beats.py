"""How a post goes on by a beat ([6])."""

import copy
import itertools
import random
import unittest

from tests.samples import NOTHING, TERA, kinds_of, slow_beat, some_post, some_stand, swapped
from waithands.beats import beat
from waithands.judging import wish
from waithands.posts import hands_of, is_post, is_stand

NONE_SEEN = (NOTHING, NOTHING, NOTHING)
NONE_CALLED = (0, 0, 0, 0, 0)
TRIPLES = ((1, 2, 3), (4, 5, 6), (7, 8, 9))


def post_of(pace=2, room=20, hands=(0, 12), late=0, every=1, rests=(0, 0), rules=()):
    return (pace, room, hands, late, every, rests, rules)


def stand_of(wait=0, ready=0, called=NONE_CALLED, since=0, rest=0, seen=NONE_SEEN):
    return (wait, ready, called, since, rest, seen)


def always(step):
    """The rules of one that always wishes so many hands more."""
    return ((("come", 1, "under", TERA, step),),)


class Work(unittest.TestCase):
    """What comes, waits, is done and is sent away, without rules."""

    def told(self, room, wait, come, ready, pace=1):
        """The triple (wait, done, away) behind a beat."""
        stand, done, away, change = beat(post_of(pace=pace, room=room), stand_of(wait=wait, ready=ready), come)
        self.assertEqual(change, 0)
        self.assertEqual(stand[0] + done + away, wait + come)
        return stand[0], done, away

    def test_less_comes_than_there_is_room_for(self):
        self.assertEqual(self.told(room=10, wait=4, come=5, ready=0), (9, 0, 0))

    def test_just_as_much_comes_as_there_is_room_for(self):
        self.assertEqual(self.told(room=10, wait=4, come=6, ready=0), (10, 0, 0))
        self.assertEqual(self.told(room=10, wait=0, come=10, ready=0), (10, 0, 0))

    def test_more_comes_than_there_is_room_for(self):
        self.assertEqual(self.told(room=10, wait=4, come=7, ready=0), (10, 0, 1))
        self.assertEqual(self.told(room=10, wait=4, come=TERA, ready=0), (10, 0, TERA - 6))
        self.assertEqual(self.told(room=10, wait=10, come=3, ready=0), (10, 0, 3))

    def test_nothing_comes(self):
        self.assertEqual(self.told(room=10, wait=4, come=0, ready=0), (4, 0, 0))
        self.assertEqual(self.told(room=0, wait=0, come=0, ready=3), (0, 0, 0))

    def test_no_room(self):
        self.assertEqual(self.told(room=0, wait=0, come=5, ready=12), (0, 0, 5))
        self.assertEqual(self.told(room=0, wait=1, come=5, ready=0), (1, 0, 5))

    def test_more_waits_than_there_is_room_for(self):
        self.assertEqual(self.told(room=10, wait=11, come=0, ready=0), (11, 0, 0))
        self.assertEqual(self.told(room=10, wait=11, come=4, ready=0), (11, 0, 4))
        self.assertEqual(self.told(room=10, wait=30, come=4, ready=5), (25, 5, 4))
        self.assertEqual(self.told(room=10, wait=30, come=4, ready=12, pace=10 ** 6), (0, 30, 4))

    def test_room_is_counted_ahead_of_what_is_done(self):
        self.assertEqual(self.told(room=10, wait=10, come=5, ready=5), (5, 5, 5))
        self.assertEqual(self.told(room=10, wait=8, come=5, ready=12), (0, 10, 3))

    def test_ready_times_pace_below_at_and_above_what_waits(self):
        self.assertEqual(self.told(room=100, wait=6, come=7, ready=3, pace=4), (1, 12, 0))
        self.assertEqual(self.told(room=100, wait=6, come=6, ready=3, pace=4), (0, 12, 0))
        self.assertEqual(self.told(room=100, wait=6, come=5, ready=3, pace=4), (0, 11, 0))
        self.assertEqual(self.told(room=100, wait=0, come=0, ready=3, pace=4), (0, 0, 0))

    def test_what_comes_may_be_done_in_that_very_beat(self):
        self.assertEqual(self.told(room=100, wait=0, come=5, ready=5), (0, 5, 0))

    def test_large_numbers(self):
        most = 12 * 10 ** 6
        self.assertEqual(self.told(room=TERA, wait=0, come=TERA, ready=12, pace=10 ** 6), (TERA - most, most, 0))
        self.assertEqual(self.told(room=TERA, wait=10 ** 13, come=TERA, ready=1), (10 ** 13 - 1, 1, TERA))
        self.assertEqual(self.told(room=TERA, wait=TERA - 1, come=TERA, ready=0), (TERA, 0, TERA - 1))

    def test_what_came_is_done_or_away_or_waits_more(self):
        chance = random.Random(61)
        for turn in range(600):
            post, stand, come = some_post(chance), some_stand(chance), chance.choice((0, 1, 9, 70, TERA))
            behind, done, away, change = beat(post, stand, come, chance.randint(0, 12))
            with self.subTest(post=post, stand=stand, come=come):
                self.assertEqual(come, done + away + behind[0] - stand[0])
                self.assertGreaterEqual(min(done, away, behind[0]), 0)


class Hands(unittest.TestCase):
    """Hands that were called begin, place by place."""

    def test_those_of_the_first_place_work_in_that_very_beat(self):
        stand, done, away, change = beat(post_of(pace=3), stand_of(wait=20, ready=1, called=(2, 0, 0, 0, 0)), 0)
        self.assertEqual((stand[0], stand[1], stand[2], done), (11, 3, NONE_CALLED, 9))

    def test_those_of_other_places_do_not(self):
        stand, done, away, change = beat(post_of(pace=3), stand_of(wait=20, ready=1, called=(0, 2, 0, 0, 0)), 0)
        self.assertEqual((stand[0], stand[1], stand[2], done), (17, 1, (2, 0, 0, 0, 0), 3))

    def test_the_others_move_one_place_ahead(self):
        stand, done, away, change = beat(post_of(), stand_of(ready=0, called=(1, 2, 3, 4, 2)), 0)
        self.assertEqual((stand[1], stand[2]), (1, (2, 3, 4, 2, 0)))
        self.assertEqual(hands_of(stand), 12)

    def test_all_are_ready_behind_five_beats(self):
        stand, readies = stand_of(called=(1, 1, 2, 3, 5)), []
        for turn in range(6):
            stand = beat(post_of(), stand, 0)[0]
            readies.append(stand[1])
        self.assertEqual(readies, [1, 2, 4, 7, 12, 12])
        self.assertEqual(stand[2], NONE_CALLED)


class Seen(unittest.TestCase):

    def test_the_newest_triple_is_the_first_and_three_stay(self):
        stand = beat(post_of(pace=1, room=10), stand_of(wait=4, ready=2, seen=TRIPLES), 3)[0]
        self.assertEqual(stand[5], ((3, 2, 5), (1, 2, 3), (4, 5, 6)))

    def test_all_that_came_is_seen_also_what_was_sent_away(self):
        stand, done, away, change = beat(post_of(pace=1, room=10), stand_of(wait=4, ready=2, seen=TRIPLES), 50)
        self.assertEqual(stand[5][0], (50, 2, 8))
        self.assertEqual(away, 44)

    def test_beat_by_beat(self):
        stand = stand_of(ready=1)
        for come in (3, 0, 4, 5):
            stand = beat(post_of(pace=2, room=5), stand, come)[0]
        self.assertEqual(stand[5], ((5, 2, 3), (4, 2, 2), (0, 1, 0)))

    def test_where_the_post_does_not_look_too(self):
        for since, rest in itertools.product((0, 5), (0, 9)):
            stand = beat(post_of(every=6), stand_of(wait=4, ready=1, since=since, rest=rest, seen=TRIPLES), 3)[0]
            self.assertEqual(stand[5], ((3, 2, 5), (1, 2, 3), (4, 5, 6)))


class SinceAndRest(unittest.TestCase):

    def test_since_is_one_more_or_0(self):
        for every, since in itertools.product(range(1, 7), range(6)):
            stand, done, away, change = beat(post_of(every=every), stand_of(since=since), 0)
            with self.subTest(every=every, since=since):
                self.assertEqual(stand[3], since + 1 if since + 1 < every else 0)

    def test_the_post_looks_just_where_since_is_every_or_more(self):
        for every, since in itertools.product(range(1, 7), range(6)):
            post = post_of(every=every, rules=always(1))
            change = beat(post, stand_of(since=since), 0)[3]
            with self.subTest(every=every, since=since):
                self.assertEqual(change, 1 if since + 1 >= every else 0)

    def test_it_looks_at_every_so_many_beats(self):
        for every in range(1, 7):
            stand, changes = stand_of(), []
            for turn in range(12):
                stand, done, away, change = beat(post_of(every=every, rules=always(1)), stand, 0)
                changes.append(change)
            self.assertEqual(changes, [1 if (turn + 1) % every == 0 else 0 for turn in range(12)])

    def test_rest_is_one_less_and_not_below_0(self):
        for rest in range(10):
            for every in (1, 3):
                self.assertEqual(beat(post_of(every=every), stand_of(rest=rest), 5)[0][4], max(rest - 1, 0))

    def test_in_a_rest_the_post_does_not_look(self):
        for step, rest in itertools.product((-1, 1, 12), range(1, 10)):
            stand, done, away, change = beat(post_of(rests=(7, 8), rules=always(step)), stand_of(ready=5, rest=rest), 0)
            with self.subTest(step=step, rest=rest):
                self.assertEqual(change, 0)
                self.assertEqual(stand[1:3], (5, NONE_CALLED))
                self.assertEqual(stand[4], rest - 1)

    def test_in_a_rest_since_goes_on_and_is_0_where_it_is_every_or_more(self):
        for every, since, rest in itertools.product(range(1, 7), range(6), (1, 2, 9)):
            stand = beat(post_of(every=every, rules=always(1)), stand_of(since=since, rest=rest), 0)[0]
            with self.subTest(every=every, since=since, rest=rest):
                self.assertEqual(stand[3], since + 1 if since + 1 < every else 0)
                self.assertEqual(stand[4], rest - 1)

    def test_the_beat_in_which_rest_comes_to_0_is_in_a_rest(self):
        stand, done, away, change = beat(post_of(rules=always(1)), stand_of(rest=1), 0)
        self.assertEqual((change, stand[4]), (0, 0))
        self.assertEqual(beat(post_of(rules=always(1)), stand, 0)[3], 1)

    def test_hands_outside_the_bounds_stay_in_a_rest(self):
        for ready in (0, 12):
            stand, done, away, change = beat(post_of(hands=(3, 5)), stand_of(ready=ready, rest=2), 0)
            self.assertEqual((stand[1], change), (ready, 0))


class Looking(unittest.TestCase):
    """What a look goes by."""

    def test_it_goes_by_the_newest_triple_and_the_three_ahead(self):
        stand = stand_of(wait=4, ready=2, seen=TRIPLES)
        sums = {"come": 3 + 1 + 4 + 7, "done": 2 + 2 + 5 + 8, "wait": 5 + 3 + 6 + 9}
        for what, total in sums.items():
            post = post_of(pace=1, rules=(((what, 4, "each", 1, 0),),))
            wished = -(-total // 4)
            with self.subTest(what=what):
                self.assertEqual(beat(post, stand, 3)[3], wished - 2)

    def test_it_goes_by_this_beat(self):
        for what, number in (("come", 6), ("done", 2), ("wait", 8)):
            post = post_of(pace=1, rules=(((what, 1, "each", 1, 0),),))
            self.assertEqual(beat(post, stand_of(wait=4, ready=2, seen=TRIPLES), 6)[3], number - 2)

    def test_it_goes_by_all_hands_called_ones_too(self):
        post = post_of(rules=always(2))
        stand, done, away, change = beat(post, stand_of(ready=1, called=(2, 3, 0, 0, 1)), 0)
        self.assertEqual((change, hands_of(stand)), (2, 9))

    def test_a_wish_that_is_just_the_hands_changes_nothing(self):
        for rules in ((), ((("come", 1, "over", TERA, 3),),), ((("come", 1, "each", 1, 0),),)):
            post, ahead = post_of(rests=(5, 6), rules=rules), stand_of(ready=2, called=(0, 1, 0, 0, 0))
            stand, done, away, change = beat(post, ahead, 3)
            with self.subTest(rules=rules):
                self.assertEqual((change, stand[1], stand[2], stand[4]), (0, 2, (1, 0, 0, 0, 0), 0))

    def test_a_step_beyond_the_bounds_where_hands_are_at_them(self):
        stand, done, away, change = beat(post_of(hands=(2, 5), rests=(5, 6), rules=always(3)), stand_of(ready=5), 0)
        self.assertEqual((change, stand[4]), (0, 0))
        stand, done, away, change = beat(post_of(hands=(2, 5), rests=(5, 6), rules=always(-3)), stand_of(ready=2), 0)
        self.assertEqual((change, stand[4]), (0, 0))

    def test_without_rules_hands_outside_the_bounds_are_called_and_sent_home(self):
        stand, done, away, change = beat(post_of(hands=(3, 5), rests=(7, 8)), stand_of(ready=1), 0)
        self.assertEqual((change, stand[1], stand[2], stand[4]), (2, 1, (2, 0, 0, 0, 0), 7))
        stand, done, away, change = beat(post_of(hands=(3, 5), rests=(7, 8)), stand_of(ready=9), 0)
        self.assertEqual((change, stand[1], stand[2], stand[4]), (-4, 5, NONE_CALLED, 8))


class Calling(unittest.TestCase):

    def test_hands_are_added_at_the_place_late(self):
        for late in range(5):
            stand, done, away, change = beat(post_of(late=late, rules=always(3)), stand_of(ready=1), 0)
            with self.subTest(late=late):
                self.assertEqual(change, 3)
                self.assertEqual(stand[1], 1)
                self.assertEqual(stand[2], tuple(3 if place == late else 0 for place in range(5)))

    def test_where_hands_stand_already_at_that_place_and_at_others(self):
        called = (1, 1, 2, 1, 2)
        moved = (1, 2, 1, 2, 0)
        for late in range(5):
            stand, done, away, change = beat(post_of(late=late, rules=always(4)), stand_of(ready=1, called=called), 0)
            with self.subTest(late=late):
                self.assertEqual((change, stand[1]), (4, 2))
                self.assertEqual(stand[2], swapped(moved, (late,), moved[late] + 4))

    def test_they_are_ready_just_late_and_one_beats_behind_the_call(self):
        for late in range(5):
            post = post_of(late=late, hands=(0, 2), rules=always(2))
            stand, readies, dones = stand_of(wait=20), [], []
            for turn in range(8):
                stand, done, away, change = beat(post, stand, 0)
                readies.append(stand[1])
                dones.append(done)
            with self.subTest(late=late):
                self.assertEqual(readies, [0] * (late + 1) + [2] * (7 - late))
                self.assertEqual(dones[:late + 2], [0] * (late + 1) + [4])

    def test_free(self):
        for wished in range(1, 13):
            post = post_of(rests=(6, 7), rules=always(wished))
            for free in range(13):
                stand, done, away, change = beat(post, stand_of(), 0, free)
                with self.subTest(wished=wished, free=free):
                    self.assertEqual(change, min(wished, free))
                    self.assertEqual(hands_of(stand), change)
                    self.assertEqual(stand[4], 6 if change else 0)

    def test_free_left_out_is_12(self):
        post = post_of(rules=always(12))
        self.assertEqual(beat(post, stand_of(), 0)[3], 12)
        self.assertEqual(beat(post, stand_of(), 0), beat(post, stand_of(), 0, 12))

    def test_where_free_lets_none_be_called_no_rest_begins(self):
        stand, done, away, change = beat(post_of(rests=(6, 7), rules=always(3)), stand_of(ready=2), 0, 0)
        self.assertEqual((change, stand[1], stand[2], stand[4]), (0, 2, NONE_CALLED, 0))

    def test_free_counts_hands_beyond_those_it_has(self):
        stand, done, away, change = beat(post_of(rules=always(3)), stand_of(ready=7, called=(1, 0, 0, 0, 0)), 0, 2)
        self.assertEqual((change, hands_of(stand)), (2, 10))

    def test_the_rest_is_up(self):
        for up, down in itertools.product(range(10), (0, 3, 9)):
            stand = beat(post_of(rests=(up, down), rules=always(1)), stand_of(), 0)[0]
            self.assertEqual(stand[4], up)

    def test_no_other_change_for_up_beats(self):
        for up in range(10):
            stand, changes = stand_of(), []
            for turn in range(12):
                stand, done, away, change = beat(post_of(rests=(up, 0), rules=always(1)), stand, 0)
                changes.append(change)
            self.assertEqual(changes, [1 if turn % (up + 1) == 0 else 0 for turn in range(12)])


class SendingHome(unittest.TestCase):

    def home(self, ready, called, many, **others):
        """The pair (ready, called) behind a beat that sends so many hands home."""
        post, ahead = post_of(rules=always(-many), **others), stand_of(ready=ready, called=called)
        stand, done, away, change = beat(post, ahead, 0)
        self.assertEqual(change, -many)
        return stand[1:3]

    def test_from_the_last_place_on_to_the_first_then_of_ready(self):
        moved = [2, 1, 0, 3, 1, 0]
        for many in range(1, 8):
            left = list(moved)
            for turn in range(many):
                place = max(place for place in range(6) if left[place])
                left[place] -= 1
            with self.subTest(many=many):
                self.assertEqual(self.home(1, (1, 1, 0, 3, 1), many), (left[0], tuple(left[1:])))

    def test_one_place_alone(self):
        for place in range(1, 5):
            called = tuple(3 if at == place else 0 for at in range(5))
            moved = called[1:] + (0,)
            self.assertEqual(self.home(2, called, 2), (2, tuple(many // 3 for many in moved)))
            self.assertEqual(self.home(2, called, 3), (2, NONE_CALLED))
            self.assertEqual(self.home(2, called, 4), (1, NONE_CALLED))

    def test_hands_of_the_first_place_are_ready_ahead_of_it(self):
        self.assertEqual(self.home(1, (2, 0, 0, 0, 0), 1), (2, NONE_CALLED))
        self.assertEqual(self.home(0, (2, 2, 0, 0, 0), 1), (2, (1, 0, 0, 0, 0)))

    def test_all_hands(self):
        self.assertEqual(self.home(7, (1, 1, 1, 1, 1), 12), (0, NONE_CALLED))

    def test_never_below_the_least(self):
        for least in range(8):
            post = post_of(hands=(least, 12), rules=always(-12))
            stand, done, away, change = beat(post, stand_of(ready=4, called=(1, 1, 0, 0, 1)), 0)
            with self.subTest(least=least):
                self.assertEqual((change, hands_of(stand)), (least - 7, least))

    def test_whatever_free_is(self):
        for free in range(13):
            stand, done, away, change = beat(post_of(rests=(6, 7), rules=always(-3)), stand_of(ready=5), 0, free)
            self.assertEqual((change, stand[1], stand[4]), (-3, 2, 7))

    def test_the_rest_is_down(self):
        for up, down in itertools.product((0, 3, 9), range(10)):
            stand = beat(post_of(rests=(up, down), rules=always(-1)), stand_of(ready=5), 0)[0]
            self.assertEqual(stand[4], down)

    def test_no_other_change_for_down_beats(self):
        for down in range(10):
            stand, changes = stand_of(ready=12), []
            for turn in range(12):
                stand, done, away, change = beat(post_of(rests=(0, down), rules=always(-1)), stand, 0)
                changes.append(change)
            self.assertEqual(changes, [-1 if turn % (down + 1) == 0 else 0 for turn in range(12)])

    def test_they_did_their_work_in_that_beat(self):
        stand, done, away, change = beat(post_of(rules=always(-5)), stand_of(wait=20, ready=5), 0)
        self.assertEqual((stand[0], stand[1], done), (10, 0, 10))


class Asked(unittest.TestCase):

    def test_as_the_document_tells_it_hand_by_hand(self):
        chance = random.Random(7)
        for turn in range(3000):
            post, stand = some_post(chance), some_stand(chance)
            come, free = chance.choice((0, 0, 1, 2, 5, 11, 30, TERA)), chance.choice((0, 1, 2, 12))
            with self.subTest(post=post, stand=stand, come=come, free=free):
                self.assertIs(is_post(post) and is_stand(stand), True)
                self.assertEqual(beat(post, stand, come, free), slow_beat(post, stand, come, free))
                self.assertEqual(beat(post, stand, come), slow_beat(post, stand, come))

    def test_what_is_told_is_a_stand_and_whole_numbers(self):
        chance = random.Random(8)
        whole, triple = int, (tuple, [int, int, int])
        kind = (tuple, [
            (tuple, [whole, whole, (tuple, [whole] * 5), whole, whole, (tuple, [triple] * 3)]), whole, whole, whole,
        ])
        for turn in range(400):
            post, stand = some_post(chance), some_stand(chance)
            told = beat(post, stand, chance.randint(0, 20), chance.randint(0, 12))
            with self.subTest(post=post, stand=stand):
                self.assertIs(is_stand(told[0]), True)
                self.assertEqual(kinds_of(told), kind)

    def test_change_is_what_hands_there_are_more(self):
        chance = random.Random(9)
        for turn in range(400):
            post, stand = some_post(chance), some_stand(chance)
            behind, done, away, change = beat(post, stand, chance.randint(0, 20), chance.randint(0, 12))
            self.assertEqual(hands_of(behind) - hands_of(stand), change)

    def test_a_look_goes_by_wish(self):
        chance = random.Random(10)
        for turn in range(400):
            post, stand, come = some_post(chance), some_stand(chance), chance.randint(0, 20)
            if stand[3] + 1 >= post[4] and stand[4] == 0:
                behind, done, away, change = beat(post, stand, come)
                hands = hands_of(stand)
                newest = ((come, done, behind[0]),) + stand[5]
                self.assertEqual(change, wish(post, hands, newest) - hands)

    def test_twice_the_same_and_nothing_changed(self):
        chance = random.Random(11)
        for turn in range(100):
            post, stand, come = some_post(chance), some_stand(chance), chance.randint(0, 20)
            ahead = copy.deepcopy((post, stand))
            told = beat(post, stand, come, 3)
            self.assertEqual(beat(post, stand, come, 3), told)
            self.assertEqual((post, stand), ahead)


if __name__ == "__main__":
    unittest.main()
