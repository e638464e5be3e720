"""How many hands a post wishes to have ([7])."""

import copy
import itertools
import unittest

from tests.samples import TERA
from waithands.judging import wish

WHATS = ("come", "done", "wait")
SPANS = (1, 2, 3, 4)
ZEROS = ((0, 0, 0),) * 4

# A rule that says nothing.
SILENT = (("come", 1, "over", TERA, 12),)


def post_of(*rules, hands=(0, 12)):
    """A post of these rules and bounds of hands."""
    return (1, 100, hands, 0, 1, (0, 0), tuple(rules))


def newest_of(what, sums, noise=0):
    """Four triples with these numbers of what, all other numbers being noise."""
    place = WHATS.index(what)
    return tuple(tuple(number if at == place else noise for at in range(3)) for number in sums)


def spread(total, span):
    """So many units over the span newest triples, unevenly."""
    newest = total // 2 if span > 1 else total
    return (newest,) + (0,) * (span - 2) + ((total - newest,) if span > 1 else ())


def says(hands):
    """A rule that says just so many hands, by what comes being 1."""
    return (("come", 1, "over", 0, hands - 5),)


class Rows(unittest.TestCase):
    """Rows of each sign, by sums just at the mark, one above it and one below."""

    def asked(self, row, hands, what, span, total):
        """The wish, asked with nothing and with much behind the span and beside what."""
        answers = set()
        for behind, noise in itertools.product((0, 7, TERA), (0, 3, TERA)):
            sums = spread(total, span) + (behind,) * (4 - span)
            answers.add(wish(post_of((row,)), hands, newest_of(what, sums, noise)))
        self.assertEqual(len(answers), 1, (row, total))
        return answers.pop()

    def test_over(self):
        for what, span, number in itertools.product(WHATS, SPANS, (0, 1, 5, TERA)):
            mark = number * span
            row = (what, span, "over", number, 3)
            with self.subTest(row=row):
                self.assertEqual(self.asked(row, 4, what, span, mark + 1), 7)
                self.assertEqual(self.asked(row, 4, what, span, mark + 1000), 7)
                self.assertEqual(self.asked(row, 4, what, span, mark), 4)
                self.assertEqual(self.asked(row, 4, what, span, 0), 4)
                if mark:
                    self.assertEqual(self.asked(row, 4, what, span, mark - 1), 4)

    def test_under(self):
        for what, span, number in itertools.product(WHATS, SPANS, (0, 1, 5, TERA)):
            mark = number * span
            row = (what, span, "under", number, -3)
            with self.subTest(row=row):
                self.assertEqual(self.asked(row, 4, what, span, mark + 1), 4)
                self.assertEqual(self.asked(row, 4, what, span, mark), 4)
                if mark:
                    self.assertEqual(self.asked(row, 4, what, span, mark - 1), 1)
                    self.assertEqual(self.asked(row, 4, what, span, 0), 1)

    def test_over_and_under_step_either_way(self):
        for sign, total in (("over", 6), ("under", 4)):
            for step in [step for step in range(-12, 13) if step != 0]:
                for hands in (0, 6, 12):
                    row = ("wait", 1, sign, 5, step)
                    wished = min(max(hands + step, 0), 12)
                    with self.subTest(row=row, hands=hands):
                        self.assertEqual(self.asked(row, hands, "wait", 1, total), wished)

    def test_each_at_its_marks(self):
        for what, span, number in itertools.product(WHATS, SPANS, (1, 2, 5, TERA)):
            row = (what, span, "each", number, 0)
            for many in range(1, 12):
                mark = number * span * many
                with self.subTest(row=row, many=many):
                    self.assertEqual(self.asked(row, 4, what, span, mark), many)
                    self.assertEqual(self.asked(row, 4, what, span, mark + 1), many + 1)
                    self.assertEqual(self.asked(row, 4, what, span, mark - 1), many if number * span > 1 else many - 1)

    def test_each_of_sums_from_0_on(self):
        for span, number in itertools.product(SPANS, (1, 2, 3, 7, 30)):
            row = ("come", span, "each", number, 0)
            for total in range(0, 61):
                wished = next(many for many in range(0, 100) if many * number * span >= total)
                with self.subTest(row=row, total=total):
                    self.assertEqual(self.asked(row, 4, "come", span, total), min(wished, 12))

    def test_each_goes_by_no_hands(self):
        newest = newest_of("done", (7, 0, 0, 0))
        for hands in range(13):
            self.assertEqual(wish(post_of((("done", 1, "each", 2, 0),)), hands, newest), 4)

    def test_each_with_nothing_says_no_hands(self):
        for what, span, number in itertools.product(WHATS, SPANS, (1, TERA)):
            self.assertEqual(wish(post_of(((what, span, "each", number, 0),)), 9, ZEROS), 0)

    def test_each_of_large_sums_is_whole(self):
        row = ("wait", 4, "each", TERA, 0)
        for total, wished in ((1, 1), (4 * TERA, 1), (4 * TERA + 1, 2), (40 * TERA, 10), (40 * TERA + 1, 11)):
            self.assertEqual(self.asked(row, 3, "wait", 4, total), wished)
        self.assertEqual(self.asked(("wait", 4, "each", 1, 0), 3, "wait", 4, 10 ** 30), 12)

    def test_each_triple_of_the_span_counts_and_none_behind(self):
        for what, span, at in itertools.product(WHATS, SPANS, range(4)):
            newest = newest_of(what, [1 if place == at else 0 for place in range(4)])
            told = wish(post_of(((what, span, "over", 0, 5),)), 2, newest)
            with self.subTest(what=what, span=span, at=at):
                self.assertEqual(told, 7 if at < span else 2)


class Rules(unittest.TestCase):
    """Several rows, and several rules."""

    def test_the_first_row_says_nothing_and_the_second_does(self):
        newest = newest_of("come", (5, 0, 0, 0))
        for first in (("come", 1, "over", 5, 4), ("come", 1, "under", 5, 4), ("done", 4, "over", 0, 4)):
            for second, wished in ((("come", 1, "over", 4, -1), 5), (("come", 1, "each", 2, 0), 3)):
                self.assertEqual(wish(post_of((first, second)), 6, newest), wished)

    def test_a_later_row_that_would_say_more_counts_for_nothing(self):
        newest = newest_of("come", (5, 0, 0, 0))
        less, more = ("come", 1, "over", 4, -2), ("come", 1, "over", 3, 4)
        each = ("come", 1, "each", 1, 0)
        self.assertEqual(wish(post_of((less, more)), 6, newest), 4)
        self.assertEqual(wish(post_of((less, each)), 6, newest), 4)
        self.assertEqual(wish(post_of((more, less)), 6, newest), 10)
        self.assertEqual(wish(post_of((each, more)), 6, newest), 5)

    def test_each_always_says_something(self):
        row = ("come", 1, "over", 3, 4)
        self.assertEqual(wish(post_of((("done", 1, "each", 1, 0), row)), 6, newest_of("come", (5, 0, 0, 0))), 0)

    def test_the_last_of_four_rows(self):
        silent = ("come", 1, "over", 9, 1)
        for many in range(4):
            rule = (silent,) * many + (("come", 1, "over", 4, 3),)
            self.assertEqual(wish(post_of(rule), 6, newest_of("come", (5, 0, 0, 0))), 9)

    def test_rows_that_all_say_nothing(self):
        for many in range(1, 5):
            for hands in range(13):
                self.assertEqual(wish(post_of(SILENT * many), hands, ZEROS), hands)

    def test_no_rules(self):
        for hands in range(13):
            self.assertEqual(wish(post_of(), hands, newest_of("come", (TERA,) * 4, TERA)), hands)

    def test_the_greatest_of_one_two_and_three_rules_in_any_order(self):
        newest = newest_of("come", (1, 0, 0, 0))
        for wishes in itertools.chain.from_iterable(itertools.product((1, 3, 5, 8, 12), repeat=n) for n in (1, 2, 3)):
            rules = [says(many) if many != 5 else SILENT for many in wishes]
            with self.subTest(wishes=wishes):
                self.assertEqual(wish(post_of(*rules), 5, newest), max(wishes))

    def test_a_silent_rule_wishes_the_hands(self):
        newest = newest_of("come", (1, 0, 0, 0))
        self.assertEqual(wish(post_of(says(2), SILENT), 5, newest), 5)
        self.assertEqual(wish(post_of(SILENT, says(2)), 5, newest), 5)
        self.assertEqual(wish(post_of(says(2), says(2)), 5, newest), 2)
        self.assertEqual(wish(post_of(says(2), says(3)), 5, newest), 3)

    def test_wishes_below_0_are_compared_as_they_are(self):
        newest = newest_of("come", (1, 0, 0, 0))
        low = (("come", 1, "over", 0, -12),)
        self.assertEqual(wish(post_of(low), 1, newest), 0)
        self.assertEqual(wish(post_of(low, says(7)), 5, newest), 7)


class Bounds(unittest.TestCase):

    def test_never_below_the_least_nor_above_the_most(self):
        newest = newest_of("come", (1, 0, 0, 0))
        for least, most in itertools.combinations_with_replacement(range(13), 2):
            for hands, step in itertools.product(range(13), (-12, -1, 1, 12)):
                post = post_of((("come", 1, "over", 0, step),), hands=(least, most))
                with self.subTest(post=post, hands=hands):
                    self.assertEqual(wish(post, hands, newest), min(max(hands + step, least), most))

    def test_without_rules_and_with_silent_ones_where_hands_lie_outside(self):
        for rules in ((), (SILENT,), (SILENT, SILENT)):
            for least, most in itertools.combinations_with_replacement(range(13), 2):
                for hands in range(13):
                    wished = least if hands < least else most if hands > most else hands
                    self.assertEqual(wish(post_of(*rules, hands=(least, most)), hands, ZEROS), wished)

    def test_each_within_the_bounds(self):
        rule = (("come", 1, "each", 1, 0),)
        for come in range(20):
            wished = wish(post_of(rule, hands=(3, 7)), 5, newest_of("come", (come, 0, 0, 0)))
            self.assertEqual(wished, min(max(come, 3), 7))

    def test_no_hands_at_all(self):
        self.assertEqual(wish(post_of(says(9), hands=(0, 0)), 0, newest_of("come", (1, 0, 0, 0))), 0)


class Asked(unittest.TestCase):

    def test_nothing_but_rules_and_hands_counts(self):
        newest = newest_of("wait", (6, 5, 4, 3), 2)
        rules = ((("wait", 3, "over", 4, 2),), (("come", 1, "each", 1, 0),))
        others = ((1, 0, 0, 1, (0, 0)), (10 ** 6, TERA, 4, 6, (9, 9)), (2, 3, 1, 2, (3, 0)))
        for pace, room, late, every, rests in others:
            self.assertEqual(wish((pace, room, (1, 9), late, every, rests, rules), 4, newest), 6)

    def test_twice_the_same_and_a_whole_number(self):
        post = post_of((("wait", 3, "over", 4, 2),), (("come", 4, "each", 3, 0),))
        newest = ((1, 2, 3), (4, 5, 6), (7, 8, 9), (10, 11, 12))
        ahead = copy.deepcopy((post, newest))
        told = wish(post, 3, newest)
        self.assertIs(type(told), int)
        self.assertEqual(wish(post, 3, newest), told)
        self.assertEqual((post, newest), ahead)


if __name__ == "__main__":
    unittest.main()
