"""What a post is ([4]), as is_post tells it ([5])."""

import copy
import itertools
import unittest

from tests.samples import (
    EACH_ROW, OTHER_KINDS, OVER_ROW, PLAIN_POST, PLAIN_STAND, TERA, UNDER_ROW, WRONG_WORDS,
    longer_and_shorter, nested, part_at, paths_of, swapped, tuple_paths,
)
from waithands.posts import is_post

PACE, ROOM, LEAST, MOST = (0,), (1,), (2, 0), (2, 1)
LATE, EVERY, UP, DOWN, RULES = (3,), (4,), (5, 0), (5, 1), (6,)
WHAT, SPAN, SIGN, NUMBER, STEP = range(5)

WHATS = ("come", "done", "wait")


def with_row(row):
    """A post whose one rule has this row alone."""
    return swapped(PLAIN_POST, RULES, ((row,),))


def with_rows(*rows):
    """A post whose one rule has these rows."""
    return swapped(PLAIN_POST, RULES, (rows,))


def every_good_row():
    """A row for each what, span and sign, with numbers within the bounds."""
    for what, span in itertools.product(WHATS, (1, 2, 3, 4)):
        yield (what, span, "over", 5, 1)
        yield (what, span, "under", 5, -1)
        yield (what, span, "each", 5, 0)


class Asking(unittest.TestCase):

    def assert_post(self, thing):
        with self.subTest(thing=thing):
            self.assertIs(is_post(thing), True)

    def assert_no_post(self, thing):
        with self.subTest(thing=thing):
            self.assertIs(is_post(thing), False)

    def assert_bounds(self, thing, path, least, most):
        """The number at the path may be least to most, and nothing beyond."""
        for number in (least, least + 1, most - 1, most):
            self.assert_post(swapped(thing, path, number))
        for number in (least - 1, most + 1, -most - 1, most * 10 ** 20 + 10 ** 20):
            self.assert_no_post(swapped(thing, path, number))


class OrdinaryPosts(Asking):

    def test_the_plain_one(self):
        self.assert_post(PLAIN_POST)

    def test_all_numbers_at_their_least_and_at_their_most(self):
        self.assert_post((1, 0, (0, 0), 0, 1, (0, 0), ()))
        most_rule = (("wait", 4, "over", TERA, 12),) * 4
        self.assert_post((10 ** 6, TERA, (12, 12), 4, 6, (9, 9), (most_rule,) * 3))

    def test_none_to_three_rules_of_one_to_four_rows(self):
        rows = (OVER_ROW, UNDER_ROW, EACH_ROW, OVER_ROW)
        rules = [rows[:many] for many in (1, 2, 3, 4)]
        for many in (0, 1, 2, 3):
            for chosen in itertools.product(rules, repeat=many):
                self.assert_post(swapped(PLAIN_POST, RULES, chosen))

    def test_each_what_span_and_sign(self):
        for row in every_good_row():
            self.assert_post(with_row(row))
            self.assert_post(with_rows(OVER_ROW, EACH_ROW, UNDER_ROW, row))


class NumbersOfPosts(Asking):

    def test_pace(self):
        self.assert_bounds(PLAIN_POST, PACE, 1, 10 ** 6)

    def test_room(self):
        self.assert_bounds(PLAIN_POST, ROOM, 0, TERA)

    def test_least_and_most_hands(self):
        for least, most in itertools.product(range(-2, 15), repeat=2):
            post = swapped(PLAIN_POST, (2,), (least, most))
            if 0 <= least <= most <= 12:
                self.assert_post(post)
            else:
                self.assert_no_post(post)

    def test_late(self):
        self.assert_bounds(PLAIN_POST, LATE, 0, 4)

    def test_every(self):
        self.assert_bounds(PLAIN_POST, EVERY, 1, 6)

    def test_rests(self):
        self.assert_bounds(PLAIN_POST, UP, 0, 9)
        self.assert_bounds(PLAIN_POST, DOWN, 0, 9)


class Rows(Asking):

    def assert_row_bounds(self, row, place, least, most):
        """The bounds hold for the row alone, and as the last one of the last rule."""
        self.assert_bounds(with_row(row), RULES + (0, 0, place), least, most)
        last = swapped(PLAIN_POST, RULES, ((OVER_ROW,), (EACH_ROW,), (OVER_ROW, EACH_ROW, OVER_ROW, row)))
        self.assert_bounds(last, RULES + (2, 3, place), least, most)

    def test_span(self):
        for row in every_good_row():
            self.assert_row_bounds(row, SPAN, 1, 4)

    def test_number(self):
        for row in every_good_row():
            self.assert_row_bounds(row, NUMBER, 1 if row[SIGN] == "each" else 0, TERA)

    def test_step_of_over_and_under(self):
        for what, sign, step in itertools.product(WHATS, ("over", "under"), range(-15, 16)):
            post = with_row((what, 2, sign, 3, step))
            if step != 0 and -12 <= step <= 12:
                self.assert_post(post)
            else:
                self.assert_no_post(post)

    def test_step_of_each(self):
        for what, step in itertools.product(WHATS, range(-15, 16)):
            post = with_row((what, 2, "each", 3, step))
            if step == 0:
                self.assert_post(post)
            else:
                self.assert_no_post(post)

    def test_another_what_or_sign(self):
        for row in every_good_row():
            for word in WRONG_WORDS + ("over", "under", "each"):
                self.assert_no_post(with_row(swapped(row, (WHAT,), word)))
            for word in WRONG_WORDS + WHATS:
                self.assert_no_post(with_row(swapped(row, (SIGN,), word)))

    def test_a_number_for_a_word(self):
        for number in (-1, 0, 1, 2):
            self.assert_no_post(with_row(swapped(OVER_ROW, (WHAT,), number)))
            self.assert_no_post(with_row(swapped(OVER_ROW, (SIGN,), number)))


class WrongShapes(Asking):

    def test_other_kinds_in_the_place_of_each_part(self):
        for path in paths_of(PLAIN_POST):
            for thing in list(OTHER_KINDS) + nested(3):
                self.assert_no_post(swapped(PLAIN_POST, path, thing))

    def test_a_tuple_for_a_number(self):
        for path in paths_of(PLAIN_POST):
            part = part_at(PLAIN_POST, path)
            if not isinstance(part, tuple):
                for thing in ((), (part,), (part, part), [part], {part: part}):
                    self.assert_no_post(swapped(PLAIN_POST, path, thing))

    def test_a_number_for_a_tuple(self):
        for path in tuple_paths(PLAIN_POST):
            for number in (-1, 0, 1, 2, 5, 7):
                self.assert_no_post(swapped(PLAIN_POST, path, number))

    def test_a_list_for_a_tuple(self):
        for path in tuple_paths(PLAIN_POST):
            self.assert_no_post(swapped(PLAIN_POST, path, list(part_at(PLAIN_POST, path))))
        self.assert_no_post(swapped(PLAIN_POST, RULES, []))

    def test_a_part_more_or_twice_or_left_out(self):
        rules_and_their_rows = (RULES, RULES + (0,), RULES + (1,))
        for path in tuple_paths(PLAIN_POST):
            if path not in rules_and_their_rows:
                for parts in longer_and_shorter(part_at(PLAIN_POST, path)):
                    self.assert_no_post(swapped(PLAIN_POST, path, parts))

    def test_too_many_rules(self):
        for many in (4, 5, 12):
            self.assert_no_post(swapped(PLAIN_POST, RULES, ((OVER_ROW,),) * many))

    def test_too_few_or_too_many_rows(self):
        for many in (0, 5, 6, 12):
            wrong = (OVER_ROW,) * many
            self.assert_no_post(swapped(PLAIN_POST, RULES, (wrong,)))
            self.assert_no_post(swapped(PLAIN_POST, RULES, ((OVER_ROW,), wrong)))
            self.assert_no_post(swapped(PLAIN_POST, RULES, (wrong, (OVER_ROW,), (OVER_ROW,))))

    def test_rows_for_rules_and_a_rule_for_rules(self):
        self.assert_no_post(swapped(PLAIN_POST, RULES, (OVER_ROW,)))
        self.assert_no_post(swapped(PLAIN_POST, RULES, OVER_ROW))
        self.assert_no_post(swapped(PLAIN_POST, RULES, (((OVER_ROW,),),)))
        self.assert_no_post(swapped(PLAIN_POST, RULES, (0,)))
        self.assert_no_post(swapped(PLAIN_POST, RULES, ((0,),)))

    def test_parts_in_another_order(self):
        self.assert_no_post(PLAIN_POST[::-1])
        self.assert_no_post(with_row(OVER_ROW[::-1]))
        self.assert_no_post(swapped(PLAIN_POST, (2,), (6, 1)))

    def test_no_tuple_at_all(self):
        for thing in OTHER_KINDS + (0, 7, -1, "post", list(PLAIN_POST), dict(enumerate(PLAIN_POST))):
            self.assert_no_post(thing)

    def test_a_stand_is_no_post(self):
        self.assert_no_post(PLAIN_STAND)
        self.assert_no_post(PLAIN_STAND + (0,))

    def test_ten_deep(self):
        for deep in range(1, 11):
            for thing in nested(deep):
                self.assert_no_post(thing)
        for thing in nested(9):
            self.assert_no_post((thing,) * 7)
        for path in paths_of(PLAIN_POST):
            for thing in nested(10 - len(path)):
                self.assert_no_post(swapped(PLAIN_POST, path, thing))


class Asked(Asking):

    def test_twice_the_same_and_nothing_changed(self):
        things = [swapped(PLAIN_POST, path, [1, {"a": [2]}]) for path in paths_of(PLAIN_POST)]
        for thing in things + [PLAIN_POST, list(PLAIN_POST), {}] + nested(10):
            with self.subTest(thing=thing):
                ahead = copy.deepcopy(thing)
                first = is_post(thing)
                self.assertIs(is_post(thing), first)
                self.assertEqual(repr(thing), repr(ahead))


if __name__ == "__main__":
    unittest.main()
