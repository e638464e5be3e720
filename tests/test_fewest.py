"""The fewest hands that keep a bound ([16], [1] (e))."""

import copy
import random
import unittest

from tests.samples import FILLING, PLAIN_POST, TERA, assert_own, kinds_of, some_post, swapped
from waithands.errors import TooMany, TooWide
from waithands.fewest import fewest, with_most
from waithands.leading import led, opened
from waithands.posts import first_stand, is_post

# It calls a hand for each unit that waits.
CALLING = (1, 6, (0, 4), 0, 1, (0, 0), ((("wait", 1, "each", 1, 0),),))


def slow_fewest(post, curve, bound, limit):
    """What fewest tells, by opened alone."""
    answers = {}
    for many in range(post[2][0], post[2][1] + 1):
        answers[many] = opened(swapped(post, (2, 1), many), first_stand(post), curve, bound, limit)
        if answers[many][0] == "kept":
            loads = [load for how, load in answers.values() if how == "broken"]
            return many, answers[many][1], loads
    return None, None, [load for how, load in answers.values()]


def is_refused(post, curve, bound, limit):
    """Whether opened is, from the first stand on."""
    try:
        opened(post, first_stand(post), curve, bound, limit)
    except TooMany:
        return True
    return False


class WithMost(unittest.TestCase):

    def test_from_the_least_up(self):
        for least in range(13):
            for most in range(least, 13):
                for many in range(least, 13):
                    post = swapped(PLAIN_POST, (2,), (least, most))
                    told = with_most(post, many)
                    self.assertEqual(told, swapped(PLAIN_POST, (2,), (least, many)))
                    self.assertIs(is_post(told), True)

    def test_all_else_as_it_is(self):
        chance = random.Random(160)
        for turn in range(50):
            post = some_post(chance)
            told = with_most(post, post[2][1])
            self.assertEqual(told, post)
            self.assertEqual(kinds_of(told), kinds_of(post))


class Fewest(unittest.TestCase):

    def test_the_least_hands_keep_it_already(self):
        for least in (0, 1, 3):
            post = swapped(CALLING, (2,), (least, 4))
            curve = ((0, least),)
            entries = led(with_most(post, least), first_stand(post), curve)
            self.assertEqual(fewest(post, curve, 0), (least, entries, []))

    def test_some_more_do(self):
        def entries_of(many, curve):
            return led(with_most(CALLING, many), first_stand(CALLING), curve)

        self.assertEqual(fewest(CALLING, ((0, 1),), 1), (1, entries_of(1, ((0, 1),)), [[1, 1]]))
        self.assertEqual(fewest(CALLING, ((0, 2),), 2), (2, entries_of(2, ((0, 2),)), [[1, 2], [2, 2]]))
        self.assertEqual(fewest(CALLING, ((1, 2),), 3), (2, entries_of(2, ((1, 2),)), [[1, 3], [2, 3]]))
        # The sixth unit that waits is the last one for which there is room.
        self.assertEqual(fewest(CALLING, ((0, 2),), TERA), (2, entries_of(2, ((0, 2),)), [[1, 2, 2, 2], [2] * 5]))

    def test_the_most_hands_just_do(self):
        post = swapped(CALLING, (2,), (0, 2))
        self.assertEqual(fewest(post, ((0, 2),), 2)[0], 2)
        post = swapped(CALLING, (2,), (0, 1))
        self.assertEqual(fewest(post, ((0, 2),), 2), (None, None, [[1, 2], [2, 2]]))

    def test_none_does(self):
        self.assertEqual(fewest(CALLING, ((0, 1),), 0), (None, None, [[1]] * 5))
        self.assertEqual(fewest(CALLING, ((0, 9),), TERA), (None, None, [[7]] * 5))
        post = swapped(FILLING, (2,), (0, 12))
        self.assertEqual(fewest(post, ((0, 1),), 3), (None, None, [[1] * 4] * 13))

    def test_least_and_most_the_same(self):
        for many in (0, 2, 12):
            post = swapped(swapped(CALLING, (1,), 50), (2,), (many, many))
            entries = led(post, first_stand(post), ((0, many),), 600)
            self.assertEqual(fewest(post, ((0, many),), 0), (many, entries, []))
            self.assertEqual(fewest(post, ((0, many + 1),), 0), (None, None, [[many + 1]]))

    def test_as_opened_tells_of_each(self):
        chance = random.Random(161)
        seen = {"least": 0, "more": 0, "none": 0}
        for turn in range(120):
            post = swapped(some_post(chance), (1,), chance.choice((2, 5, 9)))
            post = swapped(post, (2,), (chance.randint(0, 2), chance.randint(2, 4)))
            if turn % 2:
                post = swapped(swapped(CALLING, (1,), chance.choice((5, 9))), (3,), chance.randint(0, 1))
            curve = chance.choice((((0, 1),), ((1, 1),), ((2, 0),), ((0, 2), (1, 1))))
            bound = chance.randint(0, 5)
            try:
                expected = slow_fewest(post, curve, bound, 150)
            except TooMany:
                with self.assertRaises(TooMany):
                    fewest(post, curve, bound, 150)
                continue
            with self.subTest(post=post, curve=curve, bound=bound):
                self.assertEqual(fewest(post, curve, bound, 150), expected)
            many = expected[0]
            seen["none" if many is None else "least" if many == post[2][0] else "more"] += 1
        self.assertGreater(min(seen.values()), 4, seen)


class Refused(unittest.TestCase):

    def test_too_many_at_the_very_first(self):
        for limit in range(1, 8):
            with self.assertRaises(TooMany):
                fewest(swapped(FILLING, (2,), (0, 3)), ((0, 1),), TERA, limit)
        self.assertEqual(fewest(swapped(FILLING, (2,), (0, 3)), ((0, 1),), TERA, 8)[0], None)

    def test_too_many_at_a_later_one_where_those_ahead_are_broken(self):
        self.assertEqual(fewest(CALLING, ((0, 2),), 2, 6)[0], 2)
        refused = [is_refused(with_most(CALLING, many), ((0, 2),), 2, 5) for many in range(3)]
        self.assertEqual(refused, [False, False, True])
        with self.assertRaises(TooMany):
            fewest(CALLING, ((0, 2),), 2, 5)

    def test_what_a_later_one_would_be_refused_for_is_not_asked(self):
        # With the most hands it has more entries than with one, which keep the bound already.
        rows = (("come", 1, "over", 0, 1), ("come", 4, "under", 1, -1))
        post = (1, 9, (1, 6), 4, 1, (0, 0), (rows,))
        many = len(led(with_most(post, 1), first_stand(post), ((0, 1),)))
        self.assertIs(is_refused(post, ((0, 1),), 0, many), True)
        self.assertEqual(fewest(post, ((0, 1),), 0, many)[0], 1)

    def test_the_limit_is_for_each_by_itself(self):
        # Seven entries and three: ten together.
        post = swapped(CALLING, (1,), 6)
        self.assertEqual(fewest(post, ((0, 1),), 6, 7)[0], 1)
        with self.assertRaises(TooMany):
            fewest(post, ((0, 1),), 6, 6)

    def test_a_limit_left_out_is_300(self):
        post = swapped(FILLING, (1,), TERA)
        self.assertEqual(fewest(post, ((0, 1),), 299), (None, None, [[1] * 300]))
        with self.assertRaises(TooMany):
            fewest(post, ((0, 1),), 300)
        self.assertEqual(fewest(post, ((0, 1),), 599, 600), (None, None, [[1] * 600]))

    def test_too_wide(self):
        for curve in (((24, 0),), ((99, 99), (12, 12))):
            for bound, limit in ((0, 1), (TERA, 600)):
                with self.assertRaises(TooWide):
                    fewest(CALLING, curve, bound, limit)
        self.assertEqual(fewest(CALLING, ((23, 0),), 6, 600)[2], [[7]] * 5)


class Asked(unittest.TestCase):

    def test_kinds(self):
        entries = led(with_most(CALLING, 2), first_stand(CALLING), ((0, 2),))
        told = fewest(CALLING, ((0, 2),), 2)
        loads = (list, [(list, [int, int])] * 2)
        self.assertEqual(kinds_of(told), (tuple, [int, kinds_of(entries), loads]))
        none = type(None)
        self.assertEqual(kinds_of(fewest(FILLING, ((0, 1),), 0)), (tuple, [none, none, (list, [(list, [int])])]))
        self.assertEqual(kinds_of(fewest(FILLING, ((0, 0),), 0))[1][2], (list, []))

    def test_told_lists_are_the_asker_s_own_whatever_was_asked_ahead(self):
        def all_asked():
            return [
                fewest(CALLING, ((0, 2),), 2),
                fewest(CALLING, ((0, 1),), 0),
                fewest(CALLING, ((0, 0),), 0),
                fewest(CALLING, ((1, 2),), 6),
            ]

        assert_own(self, all_asked)

    def test_in_another_order_the_same_and_what_is_handed_in_stays(self):
        post, curve = copy.deepcopy((CALLING, ((0, 2), (1, 1))))
        told = [fewest(post, curve, bound) for bound in range(5)]
        for bound in reversed(range(5)):
            self.assertEqual(fewest(post, curve, bound), told[bound])
        self.assertEqual((post, curve), (CALLING, ((0, 2), (1, 1))))


if __name__ == "__main__":
    unittest.main()
