"""The text of a yard ([18])."""

import copy
import random
import re
import unittest

from tests.samples import PLAIN_POST, TERA, kinds_of, some_post, swapped
from waithands.errors import BadText, BadYard, HandError
from waithands.posts import is_post
from waithands.texts import post_rows, read_yard, yard_text
from waithands.yards import Yard

HEAD = "post cut pace 3 room 40 hands 1 6 late 2 every 2 rests 1 3"
LAST = "post sew pace 1 room 0 hands 0 0 late 0 every 1 rests 0 0"

# Each kind of row stands in it.
ROWS = [
    "yard 9",
    HEAD,
    "on sew",
    "rule",
    "come over 5 in 1 more 2",
    "wait under 0 in 4 fewer 12",
    "rule",
    "done each 3 in 2",
    LAST,
]
POSTS = [
    ("cut", PLAIN_POST, "sew"),
    ("sew", (1, 0, (0, 0), 0, 1, (0, 0), ()), None),
]

NUMBER = "(0|[1-9][0-9]*)"
NAME = "[a-z]{1,8}"
HANDS = (0, 12)
KINDS = {
    "yard": (f"yard {NUMBER}", [(0, 60)]),
    "post": (
        f"post {NAME} pace {NUMBER} room {NUMBER} hands {NUMBER} {NUMBER} late {NUMBER} every {NUMBER}"
        f" rests {NUMBER} {NUMBER}",
        [(1, 10 ** 6), (0, TERA), HANDS, HANDS, (0, 4), (1, 6), (0, 9), (0, 9)],
    ),
    "on": (f"on {NAME}", []),
    "rule": ("rule", []),
    "mark": (
        f"(?:come|done|wait) (?:over|under) {NUMBER} in {NUMBER} (?:more|fewer) {NUMBER}",
        [(0, TERA), (1, 4), (1, 12)],
    ),
    "each": (f"(?:come|done|wait) each {NUMBER} in {NUMBER}", [(1, TERA), (1, 4)]),
}


def kind_of(row):
    """Which kind of row it is, None where it is none."""
    for kind, (pattern, bounds) in KINDS.items():
        found = re.fullmatch(pattern, row)
        if found:
            numbers = [int(number) for number in found.groups()]
            if not all(least <= number <= most for number, (least, most) in zip(numbers, bounds)):
                return None
            if kind == "post" and numbers[2] > numbers[3]:
                return None
            return kind
    return None


def slow_bad_row(text):
    """The row at which a text is wrong, None where it is right, kind by kind."""
    rows = text.split("\n")
    expected, posts, rules, marks = {"yard"}, 0, 0, 0
    for place, row in enumerate(rows):
        kind = kind_of(row)
        if kind not in expected:
            return place
        if kind == "post":
            posts, rules = posts + 1, 0
        if kind == "rule":
            rules, marks = rules + 1, 0
        marks += kind in ("mark", "each")
        expected = {"post"} if kind == "yard" else {"mark", "each"} if kind == "rule" else {"post", "rule", "end"}
        expected |= {"on"} if kind == "post" else {"mark", "each"} if kind in ("mark", "each") else set()
        expected -= {"post"} if posts == 5 else set()
        expected -= {"rule"} if rules == 3 else set()
        expected -= {"mark", "each"} if marks == 4 else set()
    return None if "end" in expected else len(rows)


def some_yard(chance):
    """A total and posts, as a seeded chance gives them."""
    names = chance.sample(["a", "cut", "sew", "on", "rule", "post", "yard", "abcdefgh", "come"], chance.randint(1, 5))
    posts = []
    for place, name in enumerate(names):
        behind = names[place + 1:]
        onward = chance.choice(behind) if behind and chance.random() < 0.6 else None
        posts.append((name, some_post(chance), onward))
    return chance.randint(sum(post[2][0] for name, post, onward in posts), 60), posts


def text_of(*rows):
    return "\n".join(rows)


class Texts(unittest.TestCase):

    def assert_bad(self, text, row):
        """It is refused with BadText of that row."""
        with self.subTest(text=text):
            with self.assertRaises(BadText) as caught:
                read_yard(text)
            self.assertEqual(caught.exception.row, row)
            self.assertIs(type(caught.exception.row), int)
            self.assertEqual(slow_bad_row(text), row)


class Written(unittest.TestCase):

    def test_by_hand(self):
        self.assertEqual(yard_text(9, POSTS), "\n".join(ROWS))
        self.assertEqual(post_rows(PLAIN_POST), ROWS[3:8])
        self.assertEqual(post_rows(POSTS[1][1]), [])
        self.assertEqual(yard_text(0, POSTS[1:]), "yard 0\n" + LAST)

    def test_each_sign_and_step(self):
        rows = (
            ("come", 1, "over", 0, 12), ("done", 2, "under", TERA, -1), ("wait", 3, "over", 7, -12),
            ("come", 4, "each", 1, 0),
        )
        self.assertEqual(post_rows(swapped(PLAIN_POST, (6,), (rows, rows[3:]))), [
            "rule",
            "come over 0 in 1 more 12",
            f"done under {TERA} in 2 fewer 1",
            "wait over 7 in 3 fewer 12",
            "come each 1 in 4",
            "rule",
            "come each 1 in 4",
        ])

    def test_kinds_and_nothing_shared(self):
        one, other = post_rows(PLAIN_POST), post_rows(PLAIN_POST)
        self.assertEqual(kinds_of(one), (list, [str] * 5))
        self.assertIsNot(one, other)
        one.append("more")
        self.assertEqual(post_rows(PLAIN_POST), other)
        self.assertIsNot(post_rows(POSTS[1][1]), post_rows(POSTS[1][1]))
        posts = copy.deepcopy(POSTS)
        self.assertIs(type(yard_text(9, posts)), str)
        self.assertEqual(posts, POSTS)


class Read(Texts):

    def test_by_hand(self):
        told = read_yard("\n".join(ROWS))
        self.assertEqual(told, (9, POSTS))
        self.assertEqual(kinds_of(told), kinds_of((9, POSTS)))

    def test_what_is_written_is_read_as_it_was(self):
        chance = random.Random(180)
        many = set()
        for turn in range(200):
            total, posts = some_yard(chance)
            text = yard_text(total, posts)
            many.add(len(posts))
            with self.subTest(text=text):
                told = read_yard(text)
                self.assertEqual(told, (total, posts))
                self.assertEqual(kinds_of(told), kinds_of((total, posts)))
                self.assertEqual(yard_text(*told), text)
                self.assertIsNone(slow_bad_row(text))
                self.assertTrue(all(is_post(post) for name, post, onward in told[1]))
                Yard(*told)
        self.assertEqual(many, {1, 2, 3, 4, 5})

    def test_numbers_to_their_bounds(self):
        least = "post a pace 1 room 0 hands 0 0 late 0 every 1 rests 0 0"
        most = f"post abcdefgh pace 1000000 room {TERA} hands 12 12 late 4 every 6 rests 9 9"
        rows = [f"come over {TERA} in 4 more 12", "come under 0 in 1 fewer 1"]
        rows += [f"wait each {TERA} in 4", "wait each 1 in 1"]
        total, posts = read_yard(text_of("yard 60", least, most, "rule", *rows))
        marks = (
            ("come", 4, "over", TERA, 12), ("come", 1, "under", 0, -1), ("wait", 4, "each", TERA, 0),
            ("wait", 1, "each", 1, 0),
        )
        self.assertEqual(total, 60)
        self.assertEqual(posts[0], ("a", (1, 0, (0, 0), 0, 1, (0, 0), ()), None))
        self.assertEqual(posts[1], ("abcdefgh", (10 ** 6, TERA, (12, 12), 4, 6, (9, 9), (marks,)), None))

    def test_numbers_one_beyond(self):
        self.assert_bad(text_of("yard 61", LAST), 0)
        for old, others in (
            ("pace 3", ("pace 0", "pace 1000001")), ("room 40", (f"room {TERA + 1}",)),
            ("hands 1 6", ("hands 1 13", "hands 13 13", "hands 6 5", "hands 1 0")), ("late 2", ("late 5",)),
            ("every 2", ("every 0", "every 7")), ("rests 1 3", ("rests 10 3", "rests 1 10")),
        ):
            self.assertIn(old, HEAD)
            for other in others:
                self.assert_bad(text_of("yard 9", HEAD.replace(old, other)), 1)
        for row in (
            f"come over {TERA + 1} in 1 more 2", "come over 5 in 0 more 2", "come over 5 in 5 more 2",
            "come over 5 in 1 more 0", "come over 5 in 1 more 13",
            "come under 5 in 1 fewer 0", "come under 5 in 1 fewer 13",
            "come each 0 in 1", f"come each {TERA + 1} in 1", "come each 1 in 0", "come each 1 in 5",
        ):
            self.assert_bad(text_of("yard 9", HEAD, "rule", row), 3)

    def test_least_and_most_hands(self):
        for least in range(14):
            for most in range(14):
                text = text_of("yard 60", f"post a pace 1 room 0 hands {least} {most} late 0 every 1 rests 0 0")
                if least <= most <= 12:
                    self.assertEqual(read_yard(text)[1][0][1][2], (least, most))
                else:
                    self.assert_bad(text, 1)

    def test_numbers_otherwise_written(self):
        for place, row in enumerate(ROWS):
            for found in re.finditer("[0-9]+", row):
                number = found.group()
                others = [sign + number for sign in "0-+x"] + [number + more for more in (".0", "x", "_0", " 0")]
                for other in others + ["", "x", "00", "-0", "\u0661", "9" * 14, "9" * 100]:
                    wrong = row[:found.start()] + other + row[found.end():]
                    self.assert_bad(text_of(*ROWS[:place], wrong, *ROWS[place + 1:]), place)

    def test_words_otherwise_in_each_kind_of_row(self):
        for place, row in enumerate(ROWS):
            words = row.split(" ")
            wrong = [row + " ", " " + row, row + " more", "more " + row, row.upper(), row + "X", "x" + row, row + "\t"]
            wrong += ["", " ", "x"]
            for at, word in enumerate(words):
                wrong.append(" ".join(words[:at] + words[at + 1:]))
                wrong.append(" ".join(words[:at + 1] + words[at:]))
                wrong.append(" ".join(words[:at] + ["", word] + words[at + 1:]))
                wrong.append(" ".join(words[:at] + ["Q"] + words[at + 1:]))
                wrong.append(" ".join(words[:at] + [""] + words[at + 1:]))
            for other in wrong:
                self.assert_bad(text_of(*ROWS[:place], other, *ROWS[place + 1:]), place)

    def test_names_that_are_none(self):
        for name in ("abcdefghi", "Cut", "c1", "", "-", "c-t", "\u00e9"):
            self.assert_bad(text_of("yard 9", HEAD.replace("cut", name)), 1)
            self.assert_bad(text_of("yard 9", HEAD, f"on {name}", LAST), 2)

    def test_other_whats_and_signs(self):
        for row in (
            "came over 5 in 1 more 2", "come above 5 in 1 more 2", "come over 5 in 1 less 2", "come over 5 at 1 more 2",
            "come each 5 in 1 more 2", "come over 5 in 1", "come each 5", "over come 5 in 1 more 2", "each come 3 in 2",
        ):
            self.assert_bad(text_of("yard 9", HEAD, "rule", row), 3)
            self.assert_bad(text_of("yard 9", HEAD, "rule", "come each 3 in 2", row), 4)

    def test_on_where_it_can_not_stand(self):
        self.assert_bad(text_of("yard 9", HEAD, "on sew", "on sew", LAST), 3)
        self.assert_bad(text_of("yard 9", "on sew", HEAD, LAST), 1)
        self.assert_bad(text_of("on sew", "yard 9", HEAD, LAST), 0)
        self.assert_bad(text_of("yard 9", HEAD, "rule", "on sew", "come each 3 in 2", LAST), 3)
        self.assert_bad(text_of("yard 9", HEAD, "rule", "come each 3 in 2", "on sew", LAST), 4)

    def test_a_rule_without_a_row(self):
        self.assert_bad(text_of("yard 9", HEAD, "rule"), 3)
        self.assert_bad(text_of("yard 9", HEAD, "rule", "rule", "come each 3 in 2"), 3)
        self.assert_bad(text_of("yard 9", HEAD, "rule", LAST), 3)
        self.assert_bad(text_of("yard 9", HEAD, "on sew", "rule", LAST), 4)
        self.assert_bad(text_of("yard 9", HEAD, "rule", "come each 3 in 2", "rule"), 5)
        self.assert_bad(text_of("yard 9", HEAD, "rule", "yard 9"), 3)

    def test_four_rows_and_five_three_rules_and_four(self):
        row = "come each 3 in 2"
        mark = ("come", 2, "each", 3, 0)
        for many in (1, 2, 3, 4):
            told = read_yard(text_of("yard 9", HEAD, "rule", *[row] * many))
            self.assertEqual(told[1][0][1][6], ((mark,) * many,))
        self.assert_bad(text_of("yard 9", HEAD, "rule", *[row] * 5), 7)
        self.assert_bad(text_of("yard 9", HEAD, "rule", *[row] * 5, LAST), 7)
        for many in (0, 1, 2, 3):
            told = read_yard(text_of("yard 9", HEAD, *["rule", row] * many))
            self.assertEqual(told[1][0][1][6], ((mark,),) * many)
        self.assert_bad(text_of("yard 9", HEAD, *["rule", row] * 4), 8)
        self.assert_bad(text_of("yard 9", HEAD, *["rule", row] * 3, "rule"), 8)
        self.assert_bad(text_of("yard 9", HEAD, *["rule", row, row, row, row] * 3, "rule", row, LAST), 17)

    def test_a_row_of_a_rule_without_a_rule(self):
        self.assert_bad(text_of("yard 9", HEAD, "come each 3 in 2"), 2)
        self.assert_bad(text_of("yard 9", HEAD, "on sew", "come each 3 in 2", LAST), 3)
        self.assert_bad(text_of("yard 9", "come each 3 in 2", HEAD), 1)
        self.assert_bad(text_of("yard 9", "rule", "come each 3 in 2", HEAD), 1)

    def test_five_posts_and_six_and_none(self):
        heads = [LAST.replace("sew", name) for name in ("a", "b", "c", "d", "e", "f")]
        self.assertEqual([name for name, post, onward in read_yard(text_of("yard 9", *heads[:5]))[1]], list("abcde"))
        self.assert_bad(text_of("yard 9", *heads), 6)
        self.assert_bad(text_of("yard 9", *heads[:5], "x"), 6)
        self.assert_bad(text_of("yard 9", *heads[:5], "rule", "come each 3 in 2", heads[5]), 8)
        self.assert_bad("yard 9", 1)

    def test_yard_where_it_can_not_stand(self):
        self.assert_bad(text_of(HEAD, "yard 9"), 0)
        self.assert_bad(text_of("yard 9", "yard 9", HEAD), 1)
        self.assert_bad(text_of("yard 9", HEAD, "yard 9"), 2)

    def test_rows_without_a_word(self):
        self.assert_bad("", 0)
        self.assert_bad("\n", 0)
        self.assert_bad("\n\n", 0)
        self.assert_bad("yard 9\n", 1)
        self.assert_bad("\nyard 9\n" + HEAD, 0)
        self.assert_bad(text_of("yard 9", "", HEAD), 1)
        self.assert_bad(text_of("yard 9", HEAD, ""), 2)
        self.assert_bad(text_of("yard 9", HEAD, "", LAST), 2)
        self.assert_bad(text_of("yard 9", HEAD, "on sew", ""), 3)
        self.assert_bad(text_of("yard 9", HEAD, "rule", ""), 3)
        self.assert_bad(text_of("yard 9", HEAD, "rule", "", "come each 3 in 2"), 3)
        self.assert_bad(text_of("yard 9", HEAD, "rule", "come each 3 in 2", ""), 4)
        for many in range(1, len(ROWS) + 1):
            self.assert_bad("\n".join(ROWS[:many]) + "\n", many)

    def test_a_text_that_breaks_off(self):
        for many in range(1, len(ROWS) + 1):
            text = "\n".join(ROWS[:many])
            if slow_bad_row(text) is not None:
                self.assert_bad(text, many)

    def test_of_several_faults_the_first_row(self):
        self.assert_bad(text_of("yard 61", "x", ""), 0)
        self.assert_bad(text_of("yard 9", HEAD, "on 5", "on 6", "x"), 2)
        self.assert_bad(text_of("yard 9", HEAD, "rule", "come each 0 in 1", "rule"), 3)
        self.assert_bad(text_of("yard 9", LAST.replace("every 1", "every 9"), LAST, LAST, LAST, LAST, LAST), 1)
        self.assert_bad(text_of("yard 9", *[LAST] * 6), 6)

    def test_long_texts(self):
        self.assert_bad("\n".join(["yard 60"] + [HEAD] * 149), 6)
        self.assert_bad("\n".join(["x" * 120] * 150), 0)
        self.assert_bad(text_of("yard 9", HEAD, "rule", "come over " + "9" * 100 + " in 1 more 2"), 3)

    def test_rows_left_out_twice_or_in_another_order(self):
        chance = random.Random(181)
        extra = ROWS + ["rule", "on cut", "wait each 0 in 1", "post a", "", "done each 9 in 2"]
        seen = [0, 0]
        for turn in range(3000):
            rows = yard_text(*some_yard(chance)).split("\n") if turn % 2 else list(ROWS)
            for change in range(chance.randint(1, 3)):
                place = chance.randrange(len(rows) + 1)
                deed = chance.randrange(4)
                if deed == 0:
                    rows.insert(place, chance.choice(extra))
                elif deed == 1 and len(rows) > 1:
                    del rows[min(place, len(rows) - 1)]
                elif deed == 2:
                    rows[place:place + 2] = rows[place:place + 2][::-1]
                else:
                    rows[place:place] = rows[max(place - 2, 0):place]
            text = "\n".join(rows)
            expected = slow_bad_row(text)
            seen[expected is None] += 1
            if expected is not None:
                self.assert_bad(text, expected)
                continue
            try:
                self.assertEqual(yard_text(*read_yard(text)), text)
            except BadYard:
                pass
        self.assertGreater(min(seen), 100)


class ThenBadYard(Texts):

    def assert_bad_yard(self, *rows):
        with self.subTest(rows=rows):
            with self.assertRaises(BadYard) as caught:
                read_yard("\n".join(rows))
            self.assertIs(HandError in type(caught.exception).__bases__, True)

    def test_a_name_twice(self):
        self.assert_bad_yard("yard 9", LAST, LAST)
        self.assert_bad_yard("yard 9", LAST, HEAD, LAST)

    def test_an_onward_that_is_none_behind(self):
        self.assert_bad_yard("yard 9", HEAD, "on sew")
        self.assert_bad_yard("yard 9", HEAD, "on cut")
        self.assert_bad_yard("yard 9", HEAD, LAST, "on cut")
        self.assert_bad_yard("yard 9", HEAD, "on other", LAST)

    def test_least_hands_above_total(self):
        self.assert_bad_yard("yard 0", HEAD)
        self.assertEqual(read_yard(text_of("yard 1", HEAD))[0], 1)
        self.assert_bad_yard("yard 1", HEAD, HEAD.replace("cut", "b"))
        self.assertEqual(read_yard(text_of("yard 2", HEAD, HEAD.replace("cut", "b")))[0], 2)

    def test_bad_text_goes_first(self):
        self.assert_bad(text_of("yard 0", HEAD, HEAD, "x"), 3)
        self.assert_bad(text_of("yard 0", HEAD, "on cut", "rule"), 4)


class Asked(Texts):

    def test_twice_the_same_and_told_lists_are_the_asker_s_own(self):
        text = "\n".join(ROWS)
        one, other = read_yard(text), read_yard(text)
        self.assertIsNot(one[1], other[1])
        one[1].append("more")
        one[1][0] = None
        self.assertEqual(other, (9, POSTS))
        self.assert_bad(text + "\n", len(ROWS))
        self.assertEqual(read_yard(text), (9, POSTS))


if __name__ == "__main__":
    unittest.main()
