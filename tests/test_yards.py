"""Yards of several posts that share their hands ([12], [1] (a) and (b))."""

import copy
import itertools
import random
import unittest

from tests.samples import NOTHING, PLAIN_POST, TERA, kinds_of, slow_beat, some_post, some_stand, swapped
from waithands.beats import beat
from waithands.errors import BadYard, NoName
from waithands.posts import first_stand, hands_of, is_stand
from waithands.yards import Yard

# It has as many hands as lie between the bounds, and does two units by each.
STEADY = (2, 100, (1, 6), 0, 1, (0, 0), ())
# It calls as many hands as units come.
EAGER = (1, 100, (0, 12), 0, 1, (0, 0), ((("come", 1, "each", 1, 0),),))

WRONG_NAMES = ("", "A", "a1", "abcdefghi", "a b", " a", "a ", "a\n", "-", "1", "Post", "a_b", "~")
NAMES = ("ann", "bob", "cid", "dot", "eve", "fay")


def standing(ready):
    """A stand with so many hands ready."""
    return (0, ready, (0, 0, 0, 0, 0), 0, 0, (NOTHING, NOTHING, NOTHING))


def seen_of(yard):
    """All that a yard tells of how it stands."""
    names = yard.names()
    return (
        names,
        [yard.post(name) for name in names],
        [yard.onward(name) for name in names],
        [yard.stand(name) for name in names],
        [yard.counts(name) for name in names],
        yard.hands(), yard.beats(), yard.told(),
    )


def some_posts(chance, many):
    """Posts of a yard, as a seeded chance gives them."""
    posts = []
    for place, name in enumerate(NAMES[:many]):
        onward = chance.choice((None,) + NAMES[place + 1:many])
        posts.append((name, some_post(chance), onward))
    return posts


def some_comes(chance, names):
    """What comes in a beat, to some of the posts, in any order."""
    chosen = chance.sample(list(names), chance.randint(0, len(names)))
    return [(name, chance.choice((0, 1, 4, 15))) for name in chosen]


def slow_yard_beat(total, posts, stands, comes):
    """What a beat of a yard tells, and its stands behind it, with slow beats."""
    stands, rows = list(stands), []
    for place, (name, post, onward) in enumerate(posts):
        come = sum(units for other, units in comes if other == name)
        come += sum(rows[at][2] for at in range(place) if posts[at][2] == name)
        hands = sum(hands_of(stand) for stand in stands)
        stands[place], done, away, change = slow_beat(post, stands[place], come, min(12, total - hands))
        rows.append((name, come, done, away, change))
    return rows, stands


class Begun(unittest.TestCase):

    def test_one_to_five_posts(self):
        for many in range(1, 6):
            posts = [(name, STEADY, None) for name in NAMES[:many]]
            yard = Yard(60, posts)
            self.assertEqual(yard.names(), list(NAMES[:many]))
            self.assertEqual(yard.hands(), many)
            self.assertEqual(yard.beats(), 0)
            self.assertEqual(yard.told(), [])
            for name in NAMES[:many]:
                self.assertEqual(yard.post(name), STEADY)
                self.assertEqual(yard.stand(name), first_stand(STEADY))
                self.assertIsNone(yard.onward(name))
                self.assertEqual(yard.counts(name), (0, 0, 0))

    def test_with_stands(self):
        posts = [("b", STEADY, "a"), ("a", EAGER, None)]
        stands = [standing(5), (9, 1, (1, 0, 2, 0, 0), 5, 9, ((1, 2, 3), (4, 5, 6), (7, 8, 9)))]
        yard = Yard(9, posts, stands)
        self.assertEqual([yard.stand("b"), yard.stand("a")], stands)
        self.assertEqual(yard.hands(), 9)
        self.assertEqual(yard.onward("b"), "a")
        self.assertEqual(yard.names(), ["b", "a"])

    def test_none_for_stands_is_as_left_out(self):
        posts = [("a", STEADY, None)]
        self.assertEqual(seen_of(Yard(3, posts, None)), seen_of(Yard(3, posts)))

    def test_names_of_one_and_of_eight_letters(self):
        self.assertEqual(Yard(9, [("a", STEADY, "abcdefgh"), ("abcdefgh", STEADY, None)]).names(), ["a", "abcdefgh"])


class RefusedAtBegin(unittest.TestCase):

    def assert_refused(self, total, posts, stands=None):
        with self.subTest(posts=posts, stands=stands):
            ahead = copy.deepcopy((posts, stands))
            with self.assertRaises(BadYard):
                Yard(total, posts, stands)
            self.assertEqual((posts, stands), ahead)

    def test_names_that_are_none(self):
        for text in WRONG_NAMES:
            self.assert_refused(60, [(text, STEADY, None)])
            self.assert_refused(60, [("a", STEADY, None), (text, STEADY, None)])
            self.assert_refused(60, [("a", STEADY, text), (text, STEADY, None)])
            self.assert_refused(60, [(text, STEADY, None)], [standing(1)])

    def test_names_that_stand_twice(self):
        for at in itertools.combinations(range(4), 2):
            names = ["a", "b", "c", "d"]
            names[at[1]] = names[at[0]]
            self.assert_refused(60, [(name, STEADY, None) for name in names])

    def test_an_onward_that_is_no_post_s_behind(self):
        for place, onward in itertools.product(range(3), ("a", "b", "c", "d", "") + WRONG_NAMES):
            posts = [(name, STEADY, onward if at == place else None) for at, name in enumerate("abc")]
            if onward in "abc"[place + 1:] and onward:
                self.assertEqual(Yard(60, posts).onward("abc"[place]), onward)
            else:
                self.assert_refused(60, posts)

    def test_least_hands_above_total(self):
        for least in itertools.product((0, 2, 5), repeat=3):
            posts = [(name, swapped(STEADY, (2,), (many, 6)), None) for name, many in zip("abc", least)]
            self.assertEqual(Yard(sum(least), posts).hands(), sum(least))
            self.assert_refused(sum(least) - 1, posts)
            self.assert_refused(sum(least) - 1, posts, [standing(0)] * 3)

    def test_hands_of_stands_above_total(self):
        posts = [(name, EAGER, None) for name in "ab"]
        called = (0, 1, (1, 0, 1, 0, 2), 0, 0, (NOTHING, NOTHING, NOTHING))
        self.assertEqual(Yard(8, posts, [standing(3), called]).hands(), 8)
        self.assert_refused(7, posts, [standing(3), called])
        self.assert_refused(0, posts, [standing(0), standing(1)])
        self.assertEqual(Yard(24, posts, [standing(12), standing(12)]).hands(), 24)
        self.assert_refused(23, posts, [standing(12), standing(12)])

    def test_stands_may_have_fewer_than_the_least_and_more_than_the_most(self):
        posts = [("a", swapped(STEADY, (2,), (3, 4)), None)]
        self.assertEqual(Yard(9, posts, [standing(0)]).hands(), 0)
        self.assertEqual(Yard(9, posts, [standing(9)]).hands(), 9)

    def test_no_posts_and_six(self):
        self.assert_refused(60, [])
        self.assert_refused(60, [], [])
        six = [(name, EAGER, None) for name in NAMES]
        self.assert_refused(60, six)
        self.assert_refused(60, six, [standing(0)] * 6)
        self.assertEqual(Yard(60, six[:5]).names(), list(NAMES[:5]))

    def test_another_number_of_stands(self):
        posts = [(name, EAGER, None) for name in "abc"]
        for many in (0, 1, 2, 4, 5):
            self.assert_refused(60, posts, [standing(0)] * many)
        self.assertEqual(Yard(60, posts, [standing(0)] * 3).hands(), 0)

    def test_no_hands_at_all(self):
        yard = Yard(0, [("a", EAGER, None)])
        self.assertEqual(yard.beat([("a", 5)]), [("a", 5, 0, 0, 0)])


class Beats(unittest.TestCase):

    def test_one_post_goes_as_its_beats(self):
        yard, stand = Yard(60, [("a", PLAIN_POST, None)]), first_stand(PLAIN_POST)
        for come in (9, 0, 30, 50, 1, 1, 0, 0, 0, 70):
            stand, done, away, change = beat(PLAIN_POST, stand, come)
            self.assertEqual(yard.beat([("a", come)]), [("a", come, done, away, change)])
            self.assertEqual(yard.stand("a"), stand)

    def test_what_is_done_comes_in_the_same_beat_to_its_onward(self):
        yard = Yard(60, [("a", STEADY, "b"), ("b", swapped(STEADY, (0,), 1), None)])
        self.assertEqual(yard.beat([("a", 5)]), [("a", 5, 2, 0, 0), ("b", 2, 1, 0, 0)])
        self.assertEqual(yard.beat([]), [("a", 0, 2, 0, 0), ("b", 2, 1, 0, 0)])
        self.assertEqual(yard.beat([]), [("a", 0, 1, 0, 0), ("b", 1, 1, 0, 0)])
        self.assertEqual(yard.beat([]), [("a", 0, 0, 0, 0), ("b", 0, 1, 0, 0)])
        self.assertEqual(yard.stand("b")[0], 1)

    def test_a_chain_of_five_in_one_beat(self):
        posts = [(name, STEADY, onward) for name, onward in zip("abcde", "bcde")] + [("e", STEADY, None)]
        told = Yard(60, posts).beat([("a", 9)])
        self.assertEqual(told, [("a", 9, 2, 0, 0)] + [(name, 2, 2, 0, 0) for name in "bcde"])

    def test_a_post_that_several_lead_to(self):
        posts = [("a", STEADY, "d"), ("b", STEADY, None), ("c", STEADY, "d"), ("d", STEADY, None)]
        yard = Yard(60, posts)
        told = yard.beat([("a", 2), ("b", 2), ("c", 1), ("d", 4)])
        self.assertEqual(told, [("a", 2, 2, 0, 0), ("b", 2, 2, 0, 0), ("c", 1, 1, 0, 0), ("d", 7, 2, 0, 0)])
        self.assertEqual(yard.counts("d"), (7, 2, 0))

    def test_it_may_lead_over_posts_between(self):
        posts = [("a", STEADY, "c"), ("b", STEADY, "c"), ("c", STEADY, None)]
        self.assertEqual(Yard(60, posts).beat([("a", 1)]), [("a", 1, 1, 0, 0), ("b", 0, 0, 0, 0), ("c", 1, 1, 0, 0)])

    def test_what_is_sent_away_does_not_come_onward(self):
        posts = [("a", swapped(STEADY, (1,), 1), "b"), ("b", STEADY, None)]
        self.assertEqual(Yard(60, posts).beat([("a", 9)]), [("a", 9, 1, 8, 0), ("b", 1, 1, 0, 0)])

    def test_more_than_10_to_the_12_may_come_by_onwards(self):
        large = (10 ** 6, TERA, (12, 12), 0, 1, (0, 0), ())
        yard = Yard(60, [("a", large, "b"), ("b", swapped(large, (1,), TERA), None)])
        told = yard.beat([("a", TERA), ("b", TERA)])
        self.assertEqual(told[1], ("b", TERA + 12 * 10 ** 6, 12 * 10 ** 6, 12 * 10 ** 6, 0))

    def test_comes_in_any_order(self):
        posts = [("a", STEADY, "c"), ("b", STEADY, "c"), ("c", STEADY, None)]
        expected = Yard(60, posts).beat([("a", 5), ("b", 6), ("c", 7)])
        for comes in itertools.permutations([("a", 5), ("b", 6), ("c", 7)]):
            self.assertEqual(Yard(60, posts).beat(list(comes)), expected)
        self.assertEqual([row[0] for row in expected], ["a", "b", "c"])

    def test_a_pair_with_0_is_as_none(self):
        posts = [("a", STEADY, "b"), ("b", STEADY, None)]
        self.assertEqual(Yard(60, posts).beat([("b", 0), ("a", 3)]), Yard(60, posts).beat([("a", 3)]))

    def test_no_comes(self):
        self.assertEqual(Yard(60, [("a", STEADY, None)]).beat([]), [("a", 0, 0, 0, 0)])


class Free(unittest.TestCase):

    def test_in_the_order_of_the_posts_where_total_does_not_suffice(self):
        posts = [(name, EAGER, None) for name in "abc"]
        comes = [("a", 4), ("b", 5), ("c", 6)]
        for total, changes in ((15, [4, 5, 6]), (14, [4, 5, 5]), (9, [4, 5, 0]), (7, [4, 3, 0]), (3, [3, 0, 0])):
            yard = Yard(total, posts)
            with self.subTest(total=total):
                self.assertEqual([row[4] for row in yard.beat(comes)], changes)
                self.assertEqual(yard.hands(), sum(changes))

    def test_hands_sent_home_ahead_are_free_at_once(self):
        posts = [("a", EAGER, None), ("b", EAGER, None)]
        yard = Yard(6, posts, [standing(6), standing(0)])
        self.assertEqual([row[4] for row in yard.beat([("a", 2), ("b", 9)])], [-4, 4])

    def test_hands_sent_home_behind_are_not_free_yet(self):
        posts = [("a", EAGER, None), ("b", EAGER, None)]
        yard = Yard(6, posts, [standing(0), standing(6)])
        self.assertEqual([row[4] for row in yard.beat([("a", 9)])], [0, -6])
        self.assertEqual([row[4] for row in yard.beat([("a", 9)])], [6, 0])

    def test_hands_that_are_called_count(self):
        late = swapped(EAGER, (3,), 4)
        yard = Yard(5, [("a", late, None), ("b", EAGER, None)])
        self.assertEqual([row[4] for row in yard.beat([("a", 3), ("b", 9)])], [3, 2])
        self.assertEqual(yard.stand("a")[1:3], (0, (0, 0, 0, 0, 3)))

    def test_where_none_is_free_no_rest_begins(self):
        resting = swapped(EAGER, (5,), (5, 5))
        yard = Yard(2, [("a", EAGER, None), ("b", resting, None)])
        yard.beat([("a", 2), ("b", 2)])
        self.assertEqual(yard.stand("b")[4], 0)
        self.assertEqual(yard.beat([("b", 2)]), [("a", 0, 2, 0, -2), ("b", 2, 0, 0, 2)])
        self.assertEqual(yard.stand("b")[4], 5)

    def test_at_most_twelve_at_a_post(self):
        yard = Yard(60, [("a", EAGER, None), ("b", EAGER, None)])
        self.assertEqual([row[4] for row in yard.beat([("a", 40), ("b", 40)])], [12, 12])
        self.assertEqual(yard.hands(), 24)

    def test_hands_are_never_more_than_total(self):
        chance = random.Random(120)
        for turn in range(40):
            posts = some_posts(chance, chance.randint(2, 5))
            total = sum(post[2][0] for name, post, onward in posts) + chance.randint(0, 5)
            yard = Yard(total, posts)
            for step in range(20):
                yard.beat(some_comes(chance, yard.names()))
                self.assertLessEqual(yard.hands(), total)


class Going(unittest.TestCase):

    def test_as_slow_beats_tell_it(self):
        chance = random.Random(121)
        for turn in range(60):
            posts = some_posts(chance, chance.randint(1, 5))
            stands = [some_stand(chance) for post in posts]
            least = max(sum(map(hands_of, stands)), sum(post[2][0] for name, post, onward in posts))
            total = least + chance.randint(0, 3)
            yard, told = Yard(total, posts, stands), []
            for step in range(15):
                comes = some_comes(chance, yard.names())
                rows, stands = slow_yard_beat(total, posts, stands, comes)
                told.append(rows)
                with self.subTest(posts=posts, step=step):
                    self.assertEqual(yard.beat(comes), rows)
                    self.assertEqual([yard.stand(name) for name in yard.names()], stands)
                    self.assertEqual(yard.hands(), sum(map(hands_of, stands)))
                    self.assertEqual(yard.beats(), step + 1)
            self.assertEqual(yard.told(), told)
            for place, name in enumerate(yard.names()):
                counts = tuple(sum(rows[place][at] for rows in told) for at in (1, 2, 3))
                self.assertEqual(yard.counts(name), counts)

    def test_what_came_is_done_or_away_or_waits_more_than_at_the_begin(self):
        chance = random.Random(122)
        for turn in range(40):
            posts = some_posts(chance, chance.randint(1, 5))
            stands = [some_stand(chance) for post in posts]
            yard = Yard(60, posts, stands)
            for step in range(20):
                yard.beat(some_comes(chance, yard.names()))
            for name, stand in zip(yard.names(), stands):
                came, done, away = yard.counts(name)
                self.assertEqual(came, done + away + yard.stand(name)[0] - stand[0])

    def test_it_goes_on_as_one_begun_anew_from_its_stands(self):
        chance = random.Random(123)
        for turn in range(30):
            posts = some_posts(chance, chance.randint(1, 5))
            total = sum(post[2][0] for name, post, onward in posts) + chance.randint(0, 9)
            yard = Yard(total, posts)
            for step in range(12):
                if step % 3 == 1:
                    self.alter(chance, yard)
                names = yard.names()
                rows = [(name, yard.post(name), yard.onward(name)) for name in names]
                anew = Yard(total, rows, [yard.stand(name) for name in names])
                for later in range(3):
                    comes = some_comes(chance, names)
                    self.assertEqual(yard.beat(comes), anew.beat(comes))
                    self.assertEqual(seen_of(yard)[:4], seen_of(anew)[:4])

    def alter(self, chance, yard):
        """Changes a post and an onward of a yard, where they may be so."""
        names = yard.names()
        name = chance.choice(names)
        yard.lead(name, chance.choice([None] + names[names.index(name) + 1:]))
        post = swapped(some_post(chance), (2, 0), 0)
        yard.change(chance.choice(names), post)


class NoNames(unittest.TestCase):
    """What is refused, and that it changes nothing."""

    def setUp(self):
        self.yard = Yard(9, [("a", STEADY, "b"), ("b", PLAIN_POST, None)])
        self.yard.beat([("a", 7)])
        self.yard.beat([("b", 7), ("a", 1)])

    def assert_refused(self, error, deed, *things):
        ahead = copy.deepcopy(seen_of(self.yard))
        with self.subTest(deed=deed, things=things):
            with self.assertRaises(error):
                getattr(self.yard, deed)(*things)
            self.assertEqual(seen_of(self.yard), ahead)

    def test_each_method_that_names_a_post(self):
        for name in WRONG_NAMES + ("c", "ab", "aa"):
            for deed in ("post", "stand", "onward", "counts"):
                self.assert_refused(NoName, deed, name)
            self.assert_refused(NoName, "change", name, STEADY)
            self.assert_refused(NoName, "lead", name, None)
            self.assert_refused(NoName, "lead", name, "b")

    def test_beat(self):
        all_three = [("a", 1), ("b", 2), ("c", 3)]
        for comes in ([("c", 1)], [("a", 1), ("c", 1)], [("c", 0), ("a", 1)], [("", 1)], all_three):
            self.assert_refused(NoName, "beat", comes)

    def test_beat_with_a_name_twice(self):
        for comes in ([("a", 1), ("a", 1)], [("a", 1), ("a", 2)], [("a", 0), ("b", 1), ("a", 0)], [("b", 1)] * 3):
            self.assert_refused(NoName, "beat", comes)

    def test_change_to_least_hands_above_total(self):
        self.assertEqual(self.yard.post("b")[2][0], 1)
        for least in range(9):
            self.yard.change("a", swapped(STEADY, (2,), (least, 12)))
            self.assertEqual(self.yard.post("a")[2][0], least)
        for least in range(9, 13):
            self.assert_refused(BadYard, "change", "a", swapped(STEADY, (2,), (least, 12)))

    def test_change_counts_the_others_as_they_are_now(self):
        self.yard.change("b", swapped(STEADY, (2,), (5, 6)))
        self.assert_refused(BadYard, "change", "a", swapped(STEADY, (2,), (5, 6)))
        self.yard.change("b", swapped(STEADY, (2,), (4, 6)))
        self.yard.change("a", swapped(STEADY, (2,), (5, 6)))
        self.yard.change("a", swapped(STEADY, (2,), (5, 7)))
        self.assert_refused(BadYard, "change", "b", swapped(STEADY, (2,), (5, 6)))

    def test_lead_to_no_post_behind(self):
        for onward in WRONG_NAMES + ("a", "c", "ab"):
            self.assert_refused(BadYard, "lead", "a", onward)
        for onward in ("a", "b", "c", ""):
            self.assert_refused(BadYard, "lead", "b", onward)

    def test_no_name_ahead_of_bad_yard(self):
        self.assert_refused(NoName, "change", "c", swapped(STEADY, (2,), (12, 12)))
        for onward in ("c", "a", "x", ""):
            self.assert_refused(NoName, "lead", "c", onward)

    def test_it_goes_on_behind_refusals_as_without(self):
        twin = self.yard.twin()
        self.test_each_method_that_names_a_post()
        self.test_beat()
        self.test_beat_with_a_name_twice()
        self.test_lead_to_no_post_behind()
        for step in range(5):
            self.assertEqual(self.yard.beat([("a", 4)]), twin.beat([("a", 4)]))
        self.assertEqual(seen_of(self.yard), seen_of(twin))


class Altered(unittest.TestCase):

    def test_change_from_the_next_beat_on_its_stand_as_it_is(self):
        yard = Yard(60, [("a", STEADY, "b"), ("b", STEADY, None)])
        yard.beat([("a", 9)])
        ahead = seen_of(yard)
        faster = swapped(STEADY, (0,), 5)
        self.assertIsNone(yard.change("a", faster))
        behind = seen_of(yard)
        self.assertEqual(behind[1], [faster, STEADY])
        self.assertEqual(behind[:1] + behind[2:], ahead[:1] + ahead[2:])
        self.assertEqual(yard.beat([]), [("a", 0, 5, 0, 0), ("b", 5, 2, 0, 0)])

    def test_change_where_hands_lie_outside_the_new_bounds(self):
        yard = Yard(6, [("a", STEADY, None), ("b", STEADY, None)], [standing(5), standing(1)])
        yard.change("a", swapped(STEADY, (2,), (0, 2)))
        yard.change("b", swapped(STEADY, (2,), (4, 6)))
        self.assertEqual(yard.hands(), 6)
        self.assertEqual([row[4] for row in yard.beat([])], [-3, 3])

    def test_lead_from_the_next_beat_on(self):
        yard = Yard(60, [("a", STEADY, "b"), ("b", STEADY, None), ("c", STEADY, None)])
        yard.beat([("a", 9)])
        ahead = seen_of(yard)
        self.assertIsNone(yard.lead("a", "c"))
        behind = seen_of(yard)
        self.assertEqual(behind[2], ["c", None, None])
        self.assertEqual(behind[:2] + behind[3:], ahead[:2] + ahead[3:])
        self.assertEqual(yard.beat([]), [("a", 0, 2, 0, 0), ("b", 0, 0, 0, 0), ("c", 2, 2, 0, 0)])
        yard.lead("a", None)
        self.assertIsNone(yard.onward("a"))
        self.assertEqual(yard.beat([]), [("a", 0, 2, 0, 0), ("b", 0, 0, 0, 0), ("c", 0, 0, 0, 0)])
        yard.lead("b", "c")
        yard.lead("a", "b")
        self.assertEqual(yard.beat([]), [("a", 0, 2, 0, 0), ("b", 2, 2, 0, 0), ("c", 2, 2, 0, 0)])


class Twins(unittest.TestCase):

    def setUp(self):
        self.yard = Yard(9, [("a", PLAIN_POST, "b"), ("b", EAGER, None)], [standing(2), standing(1)])
        for come in (7, 30, 2):
            self.yard.beat([("a", come)])
        self.yard.change("b", STEADY)

    def test_it_stands_as_this_one(self):
        twin = self.yard.twin()
        self.assertIsInstance(twin, Yard)
        self.assertIsNot(twin, self.yard)
        self.assertEqual(seen_of(twin), seen_of(self.yard))
        self.assertEqual(twin.beats(), 3)
        self.assertNotEqual(twin.counts("a"), (0, 0, 0))
        self.assertEqual(len(twin.told()), 3)

    def test_it_goes_on_the_same(self):
        twin = self.yard.twin()
        for come in (0, 9, 0, 30, 1):
            self.assertEqual(twin.beat([("a", come)]), self.yard.beat([("a", come)]))
            self.assertEqual(seen_of(twin), seen_of(self.yard))

    def test_it_has_as_many_hands_in_all(self):
        yard = Yard(5, [("a", EAGER, None)])
        self.assertEqual(yard.twin().beat([("a", 9)]), [("a", 9, 0, 0, 5)])

    def test_neither_touches_the_other(self):
        def beaten(yard):
            yard.beat([("a", 3), ("b", 4)])

        def changed(yard):
            yard.change("a", EAGER)

        def led(yard):
            yard.lead("a", None)

        for deed in (beaten, changed, led):
            twin = self.yard.twin()
            ahead = copy.deepcopy(seen_of(self.yard))
            deed(twin)
            self.assertNotEqual(seen_of(twin), ahead)
            self.assertEqual(seen_of(self.yard), ahead)
            twin = self.yard.twin()
            deed(self.yard)
            self.assertEqual(seen_of(twin), ahead)
            self.assertNotEqual(seen_of(self.yard), ahead)

    def test_a_twin_of_a_twin(self):
        self.assertEqual(seen_of(self.yard.twin().twin()), seen_of(self.yard))


class Told(unittest.TestCase):

    def test_a_list_of_what_each_beat_told(self):
        yard = Yard(60, [("a", STEADY, "b"), ("b", EAGER, None)])
        told = []
        for come in (4, 0, 9):
            told.append(yard.beat([("a", come)]))
            self.assertEqual(yard.told(), told)
        self.assertEqual(len(yard.told()), 3)

    def test_kinds(self):
        yard = Yard(60, [("a", STEADY, "b"), ("b", EAGER, None)])
        rows = (list, [(tuple, [str, int, int, int, int])] * 2)
        self.assertEqual(kinds_of(yard.beat([("a", 4)])), rows)
        yard.beat([])
        self.assertEqual(kinds_of(yard.told()), (list, [rows, rows]))
        self.assertEqual(kinds_of(yard.names()), (list, [str, str]))
        self.assertEqual(kinds_of(yard.counts("a")), (tuple, [int, int, int]))
        self.assertIs(is_stand(yard.stand("a")), True)
        self.assertIs(type(yard.hands()), int)
        self.assertIs(type(yard.beats()), int)

    def test_what_is_told_is_the_asker_s_own(self):
        yard = Yard(60, [("a", STEADY, "b"), ("b", EAGER, None)])
        lists = []
        for turn in range(3):
            lists += [yard.beat([("a", 4)]), yard.names(), yard.told(), yard.told()]
            lists += yard.told() + yard.told() + yard.twin().told() + [yard.twin().names()]
        self.assertEqual(len({id(told) for told in lists}), len(lists))
        ahead = copy.deepcopy(seen_of(yard))
        twin = yard.twin()
        for told in lists:
            told.append("more")
            told[0] = None
        self.assertEqual(seen_of(yard), ahead)
        self.assertEqual(yard.beat([("a", 4)]), twin.beat([("a", 4)]))

    def test_lists_handed_in_and_changed_behind_change_nothing(self):
        posts, stands = [("a", STEADY, "b"), ("b", EAGER, None)], [standing(2), standing(3)]
        yard = Yard(60, posts, stands)
        other = Yard(60, list(posts), list(stands))
        posts.append(("c", STEADY, None))
        posts[0] = ("x", EAGER, None)
        stands.clear()
        comes = [("a", 4)]
        told = yard.beat(comes)
        self.assertIsNot(told, comes)
        self.assertEqual(comes, [("a", 4)])
        comes.append(("b", 9))
        comes[0] = ("a", 1)
        self.assertEqual(other.beat([("a", 4)]), told)
        self.assertEqual(seen_of(yard), seen_of(other))
        self.assertEqual(yard.told(), [told])

    def test_asked_twice_the_same(self):
        yard = Yard(60, [("a", STEADY, "b"), ("b", EAGER, None)])
        yard.beat([("a", 4)])
        self.assertEqual(seen_of(yard), seen_of(yard))


if __name__ == "__main__":
    unittest.main()
