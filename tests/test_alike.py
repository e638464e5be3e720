"""Which stands are alike ([8], [1] (a))."""

import copy
import itertools
import random
import unittest

from tests.samples import PLAIN_POST, PLAIN_STAND, TERA, kinds_of, some_post, some_stand, swapped
from waithands.alike import alike, lean, needed
from waithands.beats import beat
from waithands.posts import is_stand

WHATS = ("come", "done", "wait")
SINCE, SEEN = 3, 5
SEEN_PATHS = [(SEEN, triple, place) for triple, place in itertools.product(range(3), range(3))]


def post_of(*rules, every=1):
    """A post of these rules that looks at every so manieth beat."""
    return (2, 20, (0, 12), 1, every, (1, 2), tuple(rules))


def post_needing(come, done, wait):
    """A post whose rows look at so many triples ahead of the newest one."""
    spans = zip(WHATS, (come, done, wait))
    return post_of(tuple((what, many + 1, "over", 5, 1) for what, many in spans))


def is_needed(post, path):
    """Whether what is seen at this path of a stand is needed, by the words of [8]."""
    spans = [row[1] for rule in post[6] for row in rule if row[0] == WHATS[path[2]]]
    return any(span - 1 > path[1] for span in spans)


class Needed(unittest.TestCase):

    def test_no_rules(self):
        self.assertEqual(needed(post_of()), (0, 0, 0))

    def test_a_row_of_each_what_sign_and_span(self):
        for place, what in enumerate(WHATS):
            for span, (sign, step) in itertools.product(range(1, 5), (("over", 1), ("under", -1), ("each", 0))):
                expected = [0, 0, 0]
                expected[place] = span - 1
                with self.subTest(what=what, span=span, sign=sign):
                    self.assertEqual(needed(post_of(((what, span, sign, 3, step),))), tuple(expected))

    def test_the_greatest_of_the_spans(self):
        rows = [("wait", span, "over", 3, 1) for span in (2, 4, 1, 3)]
        for many in range(1, 5):
            greatest = max(row[1] for row in rows[:many])
            self.assertEqual(needed(post_of(tuple(rows[:many]))), (0, 0, greatest - 1))
            self.assertEqual(needed(post_of(tuple(reversed(rows[:many])))), (0, 0, greatest - 1))

    def test_of_all_rules(self):
        rules = [
            (("come", 2, "each", 3, 0),),
            (("done", 1, "over", 3, 1), ("come", 3, "over", 3, 1)),
            (("wait", 4, "under", 3, 1),),
        ]
        for order in itertools.permutations(rules):
            self.assertEqual(needed(post_of(*order)), (2, 0, 3))

    def test_each_triple(self):
        for triple in itertools.product(range(4), repeat=3):
            self.assertEqual(needed(post_needing(*triple)), triple)

    def test_a_row_behind_an_each_that_always_speaks_counts_too(self):
        self.assertEqual(needed(post_of((("come", 1, "each", 3, 0), ("done", 4, "over", 3, 1)))), (0, 3, 0))


class Lean(unittest.TestCase):

    def test_since_is_at_most_every_less_1(self):
        for every, since in itertools.product(range(1, 7), range(6)):
            stand = swapped(PLAIN_STAND, (SINCE,), since)
            with self.subTest(every=every, since=since):
                self.assertEqual(lean(post_of(every=every), stand)[SINCE], min(since, every - 1))

    def test_what_is_not_needed_is_0(self):
        seen = ((11, 12, 13), (21, 22, 23), (31, 32, 33))
        stand = swapped(PLAIN_STAND, (SEEN,), seen)
        for triple in itertools.product(range(4), repeat=3):
            left = tuple(
                tuple(number if triple[place] > at else 0 for place, number in enumerate(row))
                for at, row in enumerate(seen)
            )
            with self.subTest(needed=triple):
                self.assertEqual(lean(post_needing(*triple), stand)[SEEN], left)

    def test_some_by_hand(self):
        seen = ((11, 12, 13), (21, 22, 23), (31, 32, 33))
        stand = swapped(PLAIN_STAND, (SEEN,), seen)
        self.assertEqual(lean(post_of(), stand)[SEEN], ((0, 0, 0), (0, 0, 0), (0, 0, 0)))
        self.assertEqual(lean(post_needing(1, 0, 2), stand)[SEEN], ((11, 0, 13), (0, 0, 23), (0, 0, 0)))
        self.assertEqual(lean(post_needing(3, 3, 3), stand)[SEEN], seen)
        self.assertEqual(lean(post_needing(0, 3, 0), stand)[SEEN], ((0, 12, 0), (0, 22, 0), (0, 32, 0)))

    def test_all_others_are_as_they_are(self):
        chance = random.Random(81)
        for turn in range(300):
            post, stand = some_post(chance), some_stand(chance)
            told = lean(post, stand)
            self.assertEqual(told[:SINCE] + told[4:SEEN], stand[:SINCE] + stand[4:SEEN])

    def test_large_numbers(self):
        seen = ((10 ** 13, TERA, 10 ** 13),) * 3
        stand = (10 ** 13, 12, (0, 0, 0, 0, 0), 5, 9, seen)
        self.assertEqual(lean(swapped(post_needing(3, 3, 3), (4,), 6), stand), stand)

    def test_a_lean_stand_is_its_own_lean_and_a_stand(self):
        chance = random.Random(82)
        for turn in range(300):
            post, stand = some_post(chance), some_stand(chance)
            told = lean(post, stand)
            self.assertIs(is_stand(told), True)
            self.assertEqual(lean(post, told), told)
            self.assertEqual(kinds_of(told), kinds_of(stand))
            self.assertIs(alike(post, stand, told), True)


class Alike(unittest.TestCase):

    def test_the_same(self):
        self.assertIs(alike(PLAIN_POST, PLAIN_STAND, PLAIN_STAND), True)

    def test_those_that_differ_only_where_nothing_is_needed(self):
        for triple in itertools.product(range(4), repeat=3):
            post = post_needing(*triple)
            for path in SEEN_PATHS:
                other = swapped(PLAIN_STAND, path, 99)
                with self.subTest(needed=triple, path=path):
                    expected = not is_needed(post, path)
                    self.assertIs(alike(post, PLAIN_STAND, other), expected)
                    self.assertIs(alike(post, other, PLAIN_STAND), expected)

    def test_by_since(self):
        for every, one, other in itertools.product(range(1, 7), range(6), range(6)):
            stands = [swapped(PLAIN_STAND, (SINCE,), since) for since in (one, other)]
            expected = one == other or (one >= every - 1 and other >= every - 1)
            with self.subTest(every=every, one=one, other=other):
                self.assertIs(alike(post_of(every=every), *stands), expected)

    def test_those_that_differ_anywhere_else_are_not(self):
        for path, number in (((0,), 8), ((1,), 2), ((4,), 3), ((4,), 0)):
            self.assertIs(alike(PLAIN_POST, PLAIN_STAND, swapped(PLAIN_STAND, path, number)), False)
        for place in range(5):
            other = swapped(PLAIN_STAND, (2, place), PLAIN_STAND[2][place] + 1)
            self.assertIs(alike(PLAIN_POST, PLAIN_STAND, other), False)
        self.assertIs(alike(PLAIN_POST, PLAIN_STAND, swapped(PLAIN_STAND, (2,), (0, 1, 2, 0, 1))), False)

    def test_without_rules_what_waits_and_the_hands_still_count(self):
        self.assertIs(alike(post_of(), PLAIN_STAND, swapped(PLAIN_STAND, (0,), 8)), False)
        self.assertIs(alike(post_of(), PLAIN_STAND, swapped(PLAIN_STAND, (SEEN,), ((0, 0, 0),) * 3)), True)


class GoingAlike(unittest.TestCase):

    def other_stand(self, chance, post, stand):
        """A stand alike to that one, with other numbers wherever nothing is needed."""
        for path in SEEN_PATHS:
            if not is_needed(post, path):
                stand = swapped(stand, path, chance.randint(0, 40))
        if stand[SINCE] >= post[4] - 1:
            stand = swapped(stand, (SINCE,), chance.randint(post[4] - 1, 5))
        return stand

    def test_beats_of_alike_stands_tell_the_same_and_lead_to_alike_stands(self):
        chance = random.Random(83)
        differing = changes = 0
        for turn in range(500):
            post, one = some_post(chance), some_stand(chance)
            other = self.other_stand(chance, post, one)
            differing += one != other
            for step in range(6):
                self.assertIs(alike(post, one, other), True)
                come, free = chance.choice((0, 1, 3, 8, 40)), chance.choice((0, 1, 12))
                one, *told = beat(post, one, come, free)
                other, *other_told = beat(post, other, come, free)
                changes += told[2] != 0
                with self.subTest(post=post, one=one, other=other):
                    self.assertEqual(told, other_told)
                    self.assertIs(alike(post, one, other), True)
        self.assertGreater(differing, 300)
        self.assertGreater(changes, 300)

    def test_each_number_that_is_needed_can_matter(self):
        for place, span in itertools.product(range(3), range(2, 5)):
            post = (1, TERA, (0, 12), 0, 1, (0, 0), (((WHATS[place], span, "over", 50, 1),),))
            calm = (0, 0, (0, 0, 0, 0, 0), 0, 0, ((0, 0, 0),) * 3)
            for triple in range(3):
                loud = swapped(calm, (SEEN, triple, place), 1000)
                looks = beat(post, calm, 0)[3] != beat(post, loud, 0)[3]
                with self.subTest(place=place, span=span, triple=triple):
                    self.assertIs(looks, triple < span - 1)
                    self.assertIs(alike(post, calm, loud), not looks)


class Asked(unittest.TestCase):

    def test_twice_the_same_and_nothing_changed(self):
        chance = random.Random(84)
        for turn in range(50):
            post, one, other = some_post(chance), some_stand(chance), some_stand(chance)
            ahead = copy.deepcopy((post, one, other))
            self.assertEqual(needed(post), needed(post))
            self.assertEqual(kinds_of(needed(post)), (tuple, [int, int, int]))
            self.assertEqual(lean(post, one), lean(post, one))
            self.assertIs(alike(post, one, other), alike(post, one, other))
            self.assertEqual((post, one, other), ahead)


if __name__ == "__main__":
    unittest.main()
