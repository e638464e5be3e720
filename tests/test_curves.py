"""Curves, which bound what may come ([11])."""

import copy
import itertools
import random
import unittest

from tests.samples import TERA, kinds_of, slow_spares, slow_within, some_curve
from waithands.curves import least_bursts, most_next, spares, spares_next, within
from waithands.errors import Beyond


def some_load(chance):
    """A small load, as a seeded chance gives it."""
    return [chance.choice((0, 0, 1, 1, 2, 3, 6)) for beat in range(chance.randint(0, 9))]


class Curves(unittest.TestCase):

    def assert_within(self, curve, load):
        with self.subTest(curve=curve, load=load):
            self.assertIs(within(curve, load), True)
            self.assertEqual(spares(curve, load), slow_spares(curve, load))

    def assert_beyond(self, curve, load):
        with self.subTest(curve=curve, load=load):
            self.assertIs(within(curve, load), False)
            with self.assertRaises(Beyond):
                spares(curve, load)


class Within(Curves):

    def test_the_empty_load(self):
        for curve in (((0, 0),), ((5, 2),), ((5, 2), (0, 3)), ((TERA, TERA), (1, 1), (0, 0))):
            self.assert_within(curve, [])
            self.assertEqual(spares(curve, []), tuple(burst for burst, rate in curve))

    def test_a_beat_just_at_the_most_and_one_more(self):
        self.assert_within(((5, 2),), [7])
        self.assert_beyond(((5, 2),), [8])
        self.assert_within(((5, 2), (3, 3)), [6])
        self.assert_beyond(((5, 2), (3, 3)), [7])
        self.assert_within(((9, 9), (5, 2), (3, 3)), [6])
        self.assert_beyond(((3, 3), (9, 9), (5, 2)), [7])

    def test_stretches_in_the_midst_and_at_the_end(self):
        self.assert_within(((5, 2),), [0, 0, 7, 2, 2, 2])
        self.assert_beyond(((5, 2),), [0, 0, 7, 2, 3, 0, 0])
        self.assert_beyond(((5, 2),), [0, 0, 7, 2, 2, 3])
        self.assert_within(((5, 2),), [7, 0, 4, 2])
        self.assert_beyond(((5, 2),), [7, 0, 5])
        self.assert_beyond(((5, 2),), [8, 0, 0, 0])
        self.assert_beyond(((5, 2),), [0, 0, 8])

    def test_a_spare_is_never_above_the_burst(self):
        self.assert_within(((5, 2),), [0] * 50 + [7])
        self.assert_beyond(((5, 2),), [0] * 50 + [8])

    def test_each_pair_counts(self):
        pairs = ((5, 2), (2, 3), (0, 6))
        for curve in itertools.permutations(pairs):
            self.assert_within(curve, [5, 3, 2])
            self.assert_beyond(curve, [6])
            self.assert_beyond(curve, [5, 4])
            self.assert_beyond(curve, [5, 3, 3, 3])

    def test_bursts_and_rates_of_0(self):
        self.assert_within(((0, 0),), [0, 0, 0])
        self.assert_beyond(((0, 0),), [0, 1, 0])
        self.assert_within(((0, 3),), [3, 3, 0, 3])
        self.assert_beyond(((0, 3),), [0, 4])
        self.assert_within(((4, 0),), [1, 0, 2, 1])
        self.assert_beyond(((4, 0),), [1, 0, 2, 1, 0, 1])

    def test_bursts_and_rates_at_their_most(self):
        self.assert_within(((TERA, TERA),), [TERA] * 300)
        self.assert_within(((0, TERA),), [TERA] * 20)
        self.assert_within(((TERA, 0),), [TERA, 0, 0])
        self.assert_beyond(((TERA, 0),), [TERA, 0, 1])
        self.assert_beyond(((TERA, 0),), [1, TERA])
        self.assert_within(((TERA, TERA),), [2 * TERA, TERA])
        self.assert_beyond(((TERA, TERA),), [2 * TERA, TERA + 1])

    def test_as_each_stretch_tells_it(self):
        chance = random.Random(110)
        kept = 0
        for turn in range(1500):
            curve, load = some_curve(chance), some_load(chance)
            if slow_within(curve, load):
                kept += 1
                self.assert_within(curve, load)
            else:
                self.assert_beyond(curve, load)
        self.assertGreater(kept, 300)
        self.assertLess(kept, 1200)

    def test_300_beats(self):
        self.assert_within(((5, 2), (9, 1)), [6, 1] + [1] * 298)
        self.assert_beyond(((5, 2), (9, 1)), [6, 1] + [1] * 290 + [8])

    def test_a_steady_load_of_the_least_rate_or_less(self):
        for curve in (((0, 3), (2, 5)), ((7, 0), (0, 4)), ((0, 2),)):
            least = min(rate for burst, rate in curve)
            for come in range(least + 1):
                self.assert_within(curve, [come] * 40)


class Next(unittest.TestCase):

    def test_by_hand(self):
        curve = ((5, 2), (3, 3))
        self.assertEqual(most_next(curve, (5, 3)), 6)
        self.assertEqual(most_next(curve, (0, 3)), 2)
        self.assertEqual(most_next(curve, (5, 0)), 3)
        self.assertEqual(spares_next(curve, (5, 3), 6), (1, 0))
        self.assertEqual(spares_next(curve, (1, 0), 0), (3, 3))
        self.assertEqual(spares_next(curve, (1, 0), 1), (2, 2))
        self.assertEqual(spares_next(curve, (1, 0), 3), (0, 0))

    def test_nothing_comes(self):
        for burst, rate, spare in itertools.product(range(5), range(5), range(5)):
            if spare <= burst:
                self.assertEqual(spares_next(((burst, rate),), (spare,), 0), (min(burst, spare + rate),))

    def test_just_as_much_as_may_and_one_more_at_any_spares(self):
        for curve in (((4, 2),), ((4, 2), (3, 3)), ((3, 0), (2, 2), (0, 3)), ((0, 0),)):
            for spare in itertools.product(*[range(burst + 1) for burst, rate in curve]):
                most = min(rate + left for (burst, rate), left in zip(curve, spare))
                with self.subTest(curve=curve, spare=spare):
                    self.assertEqual(most_next(curve, spare), most)
                    for come in range(most + 1):
                        expected = tuple(min(burst, left + rate - come) for (burst, rate), left in zip(curve, spare))
                        self.assertEqual(spares_next(curve, spare, come), expected)
                    for come in (most + 1, most + 2, TERA):
                        with self.assertRaises(Beyond):
                            spares_next(curve, spare, come)

    def test_large_numbers(self):
        curve = ((TERA, TERA), (TERA, 0))
        self.assertEqual(most_next(curve, (TERA, TERA)), TERA)
        self.assertEqual(spares_next(curve, (TERA, TERA), TERA), (TERA, 0))
        self.assertEqual(most_next(((TERA, TERA),), (TERA,)), 2 * TERA)

    def test_in_agreement_with_spares_of_the_load_with_that_beat(self):
        chance = random.Random(111)
        for turn in range(600):
            curve, load = some_curve(chance), some_load(chance)
            if not slow_within(curve, load):
                continue
            spare = spares(curve, load)
            most = most_next(curve, spare)
            with self.subTest(curve=curve, load=load):
                for come in range(most + 1):
                    self.assertEqual(spares(curve, load + [come]), spares_next(curve, spare, come))
                self.assertIs(within(curve, load + [most]), True)
                self.assertIs(within(curve, load + [most + 1]), False)


class LeastBursts(unittest.TestCase):

    def test_by_hand(self):
        self.assertEqual(least_bursts([3, 0, 4, 4], [2]), ((4, 2),))
        self.assertEqual(least_bursts([3, 0, 4, 4], [0, 3, 9]), ((11, 0), (2, 3), (0, 9)))
        self.assertEqual(least_bursts([9, 0, 0, 1], [4]), ((5, 4),))
        self.assertEqual(least_bursts([1, 0, 0, 9], [4]), ((5, 4),))
        self.assertEqual(least_bursts([0, 6, 3, 6, 0], [4]), ((3, 4),))

    def test_the_empty_load(self):
        self.assertEqual(least_bursts([], [0, 5]), ((0, 0), (0, 5)))

    def test_rates_in_the_order_handed_in_also_alike(self):
        load = [5, 1, 7]
        one = {rate: least_bursts(load, [rate])[0] for rate in range(9)}
        for rates in itertools.product((0, 3, 8), repeat=3):
            self.assertEqual(least_bursts(load, list(rates)), tuple(one[rate] for rate in rates))

    def test_large_numbers(self):
        self.assertEqual(least_bursts([TERA] * 300, [0, TERA, TERA - 1]), ((300 * TERA, 0), (0, TERA), (300, TERA - 1)))

    def test_the_load_is_within_it_and_not_with_one_less(self):
        chance = random.Random(112)
        for turn in range(600):
            load = some_load(chance)
            rates = [chance.randint(0, 4) for rate in range(chance.randint(1, 3))]
            curve = least_bursts(load, rates)
            with self.subTest(load=load, rates=rates):
                self.assertEqual([rate for burst, rate in curve], rates)
                self.assertIs(within(curve, load), True)
                for burst, rate in curve:
                    self.assertGreaterEqual(burst, 0)
                    if burst > 0:
                        self.assertIs(within(((burst - 1, rate),), load), False)


class Asked(unittest.TestCase):

    def test_kinds(self):
        curve = ((5, 2), (3, 3))
        self.assertEqual(kinds_of(spares(curve, [1, 2])), (tuple, [int, int]))
        self.assertEqual(kinds_of(spares_next(curve, (1, 2), 2)), (tuple, [int, int]))
        self.assertIs(type(most_next(curve, (1, 2))), int)
        self.assertEqual(kinds_of(least_bursts([1, 5], [2, 3])), (tuple, [(tuple, [int, int])] * 2))

    def test_twice_the_same_and_nothing_changed(self):
        curve, load, rates = ((5, 2), (3, 3)), [2, 0, 4], [1, 2]
        ahead = copy.deepcopy((curve, load, rates))
        for turn in range(2):
            self.assertIs(within(curve, load), True)
            self.assertEqual(spares(curve, load), (3, 2))
            self.assertEqual(least_bursts(load, rates), ((3, 1), (2, 2)))
            with self.assertRaises(Beyond):
                spares(curve, [9])
        self.assertEqual((curve, load, rates), ahead)


if __name__ == "__main__":
    unittest.main()
