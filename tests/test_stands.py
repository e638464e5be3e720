"""What a stand is, the first one, and its hands ([5])."""

import copy
import itertools
import unittest

from tests.samples import (
    NOTHING, OTHER_KINDS, PLAIN_POST, PLAIN_STAND, TERA,
    longer_and_shorter, nested, part_at, paths_of, swapped, tuple_paths,
)
from waithands.posts import first_stand, hands_of, is_post, is_stand

WAIT, READY, CALLED, SINCE, REST, SEEN = (0,), (1,), (2,), (3,), (4,), (5,)

NO_HANDS = swapped(swapped(PLAIN_STAND, READY, 0), CALLED, (0, 0, 0, 0, 0))


class Asking(unittest.TestCase):

    def assert_stand(self, thing):
        with self.subTest(thing=thing):
            self.assertIs(is_stand(thing), True)

    def assert_no_stand(self, thing):
        with self.subTest(thing=thing):
            self.assertIs(is_stand(thing), False)


class OrdinaryStands(Asking):

    def test_plain_ones(self):
        self.assert_stand(PLAIN_STAND)
        self.assert_stand(NO_HANDS)
        self.assert_stand((0, 0, (0, 0, 0, 0, 0), 0, 0, (NOTHING, NOTHING, NOTHING)))

    def test_all_at_their_most(self):
        large = (10 ** 13, 10 ** 13, 10 ** 13)
        self.assert_stand((10 ** 13, 12, (0, 0, 0, 0, 0), 5, 9, (large, large, large)))


class NumbersOfStands(Asking):

    def test_wait_and_seen_of_any_size_from_0_up(self):
        paths = [WAIT] + [SEEN + (row, place) for row in range(3) for place in range(3)]
        for path in paths:
            for number in (0, 1, 12, 13, TERA, TERA + 1, 10 ** 13, 10 ** 13 + 1, 10 ** 60):
                self.assert_stand(swapped(PLAIN_STAND, path, number))
            for number in (-1, -2, -TERA):
                self.assert_no_stand(swapped(PLAIN_STAND, path, number))

    def test_since(self):
        for since in range(-3, 12):
            stand = swapped(PLAIN_STAND, SINCE, since)
            if 0 <= since <= 5:
                self.assert_stand(stand)
            else:
                self.assert_no_stand(stand)

    def test_rest(self):
        for rest in range(-3, 15):
            stand = swapped(PLAIN_STAND, REST, rest)
            if 0 <= rest <= 9:
                self.assert_stand(stand)
            else:
                self.assert_no_stand(stand)

    def test_hands_at_one_place(self):
        for path in [READY] + [CALLED + (place,) for place in range(5)]:
            for many in (0, 1, 11, 12):
                self.assert_stand(swapped(NO_HANDS, path, many))
            for many in (-1, -12, 13, 14, TERA):
                self.assert_no_stand(swapped(NO_HANDS, path, many))

    def test_twelve_hands_together_and_thirteen(self):
        paths = [READY] + [CALLED + (place,) for place in range(5)]
        for one, other in itertools.permutations(paths, 2):
            for many in range(0, 13):
                stand = swapped(NO_HANDS, one, many)
                self.assert_stand(swapped(stand, other, 12 - many))
                self.assert_no_stand(swapped(stand, other, 13 - many))
        self.assert_stand(swapped(swapped(PLAIN_STAND, READY, 2), CALLED, (2, 2, 2, 2, 2)))
        self.assert_no_stand(swapped(swapped(PLAIN_STAND, READY, 3), CALLED, (2, 2, 2, 2, 2)))

    def test_fewer_than_no_hands_make_no_room_for_others(self):
        self.assert_no_stand(swapped(swapped(NO_HANDS, READY, 13), CALLED, (-1, 0, 0, 0, 0)))
        self.assert_no_stand(swapped(swapped(NO_HANDS, READY, -1), CALLED, (1, 0, 0, 0, 0)))
        self.assert_no_stand(swapped(NO_HANDS, CALLED, (1, 0, -1, 0, 0)))


class WrongShapes(Asking):

    def test_other_kinds_in_the_place_of_each_part(self):
        for path in paths_of(PLAIN_STAND):
            for thing in list(OTHER_KINDS) + nested(3):
                self.assert_no_stand(swapped(PLAIN_STAND, path, thing))

    def test_a_tuple_for_a_number(self):
        for path in paths_of(PLAIN_STAND):
            part = part_at(PLAIN_STAND, path)
            if not isinstance(part, tuple):
                for thing in ((), (part,), (part, part), [part], {part: part}):
                    self.assert_no_stand(swapped(PLAIN_STAND, path, thing))

    def test_a_number_for_a_tuple(self):
        for path in tuple_paths(PLAIN_STAND):
            for number in (-1, 0, 1, 3, 5, 6):
                self.assert_no_stand(swapped(PLAIN_STAND, path, number))

    def test_a_list_for_a_tuple(self):
        for path in tuple_paths(PLAIN_STAND):
            self.assert_no_stand(swapped(PLAIN_STAND, path, list(part_at(PLAIN_STAND, path))))

    def test_a_part_more_or_twice_or_left_out(self):
        for path in tuple_paths(PLAIN_STAND):
            for parts in longer_and_shorter(part_at(PLAIN_STAND, path)):
                self.assert_no_stand(swapped(PLAIN_STAND, path, parts))

    def test_called_of_four_and_six_places(self):
        for many in (0, 1, 4, 6, 7, 12):
            self.assert_no_stand(swapped(NO_HANDS, CALLED, (0,) * many))
        self.assert_stand(swapped(NO_HANDS, CALLED, (0,) * 5))

    def test_seen_of_two_and_four_triples(self):
        for many in (0, 1, 2, 4, 5, 6):
            self.assert_no_stand(swapped(PLAIN_STAND, SEEN, (NOTHING,) * many))
        self.assert_stand(swapped(PLAIN_STAND, SEEN, (NOTHING,) * 3))

    def test_triples_of_two_and_four(self):
        for place, many in itertools.product(range(3), (0, 1, 2, 4, 5)):
            self.assert_no_stand(swapped(PLAIN_STAND, SEEN + (place,), (0,) * many))

    def test_no_tuple_at_all(self):
        for thing in OTHER_KINDS + (0, 6, -1, "stand", list(PLAIN_STAND), dict(enumerate(PLAIN_STAND))):
            self.assert_no_stand(thing)

    def test_a_post_is_no_stand(self):
        self.assert_no_stand(PLAIN_POST)
        self.assert_no_stand(PLAIN_POST[:6])

    def test_ten_deep(self):
        for deep in range(1, 11):
            for thing in nested(deep):
                self.assert_no_stand(thing)
        for thing in nested(9):
            self.assert_no_stand((thing,) * 6)
        for path in paths_of(PLAIN_STAND):
            for thing in nested(10 - len(path)):
                self.assert_no_stand(swapped(PLAIN_STAND, path, thing))


class Asked(Asking):

    def test_twice_the_same_and_nothing_changed(self):
        things = [swapped(PLAIN_STAND, path, [1, {"a": [2]}]) for path in paths_of(PLAIN_STAND)]
        for thing in things + [PLAIN_STAND, list(PLAIN_STAND), {}] + nested(10):
            with self.subTest(thing=thing):
                ahead = copy.deepcopy(thing)
                first = is_stand(thing)
                self.assertIs(is_stand(thing), first)
                self.assertEqual(repr(thing), repr(ahead))


class FirstStands(unittest.TestCase):

    def test_the_least_hands_are_ready_and_all_else_is_0(self):
        for least, most in itertools.combinations_with_replacement(range(13), 2):
            post = swapped(PLAIN_POST, (2,), (least, most))
            with self.subTest(post=post):
                self.assertIs(is_post(post), True)
                stand = first_stand(post)
                self.assertEqual(stand, (0, least, (0, 0, 0, 0, 0), 0, 0, ((0, 0, 0), (0, 0, 0), (0, 0, 0))))
                self.assertIs(is_stand(stand), True)

    def test_it_goes_by_the_least_hands_alone(self):
        other = (10 ** 6, TERA, (1, 12), 4, 6, (9, 9), ())
        self.assertEqual(first_stand(other), first_stand(PLAIN_POST))

    def test_told_twice_the_same(self):
        self.assertEqual(first_stand(PLAIN_POST), first_stand(PLAIN_POST))


class HandsOfStands(unittest.TestCase):

    def test_ready_and_called_together(self):
        self.assertEqual(hands_of(PLAIN_STAND), 7)
        self.assertEqual(hands_of(NO_HANDS), 0)
        self.assertEqual(hands_of(swapped(NO_HANDS, READY, 12)), 12)

    def test_each_place_counts(self):
        for path in [READY] + [CALLED + (place,) for place in range(5)]:
            for many in range(13):
                with self.subTest(path=path, many=many):
                    self.assertEqual(hands_of(swapped(NO_HANDS, path, many)), many)

    def test_of_a_first_stand_the_least_hands(self):
        for least in range(13):
            with self.subTest(least=least):
                self.assertEqual(hands_of(first_stand(swapped(PLAIN_POST, (2,), (least, 12)))), least)


if __name__ == "__main__":
    unittest.main()
