"""Loads, and the texts that write them ([10])."""

import itertools
import random
import unittest

from tests.samples import TERA, kinds_of
from waithands.errors import BadLoad
from waithands.loads import load_of, load_text

OTHER_SIGNS = sorted(set(map(chr, range(32, 127))) - set("%0123456789x() -")) + ["\n", "\t"]


class Loads(unittest.TestCase):

    def assert_load(self, text, load):
        with self.subTest(text=text[:80]):
            told = load_of(text)
            self.assertEqual(told, load)
            self.assertEqual(kinds_of(told), (list, [int] * len(load)))

    def assert_refused(self, text):
        with self.subTest(text=text[:80]):
            with self.assertRaises(BadLoad):
                load_of(text)


class Written(Loads):

    def test_the_empty_load(self):
        self.assert_load("-", [])

    def test_numbers(self):
        self.assert_load("0", [0])
        self.assert_load("7", [7])
        self.assert_load("10", [10])
        self.assert_load("1000000000000", [TERA])
        self.assert_load("999999999999", [TERA - 1])
        self.assert_load("5 0 12 3", [5, 0, 12, 3])

    def test_so_many_times(self):
        self.assert_load("4x2", [4, 4])
        self.assert_load("0x3", [0, 0, 0])
        self.assert_load("1000000000000x2", [TERA, TERA])
        for times in range(2, 100):
            self.assert_load(f"8x{times}", [8] * times)
        self.assert_load("1 2x3 4 5x2", [1, 2, 2, 2, 4, 5, 5])

    def test_brackets(self):
        self.assert_load("(5)x2", [5, 5])
        self.assert_load("(5 6)x2", [5, 6, 5, 6])
        self.assert_load("(5x3 6)x2", [5, 5, 5, 6, 5, 5, 5, 6])
        self.assert_load("1 (2 3)x3 4", [1, 2, 3, 2, 3, 2, 3, 4])
        self.assert_load("(1)x2 (2)x3", [1, 1, 2, 2, 2])
        self.assert_load("(1 2)x99", [1, 2] * 99)

    def test_brackets_two_and_three_deep(self):
        self.assert_load("((1)x2)x2", [1] * 4)
        self.assert_load("((1 2)x2 3)x2", [1, 2, 1, 2, 3] * 2)
        self.assert_load("(((1)x2)x2)x2", [1] * 8)
        self.assert_load("(0 (1 (2 3x2)x2 4)x2 5)x2 6", [0] + [1] + [2, 3, 3] * 2 + [4] + [1] + [2, 3, 3] * 2 + [4, 5]
                         + [0] + [1] + [2, 3, 3] * 2 + [4] + [1] + [2, 3, 3] * 2 + [4, 5] + [6])

    def test_brackets_side_by_side_are_not_deeper(self):
        self.assert_load("(((1)x2)x2)x2 (((1)x2)x2)x2", [1] * 16)
        self.assert_load("((1)x2 (1)x2 (1)x2 (1)x2)x2", [1] * 16)

    def test_just_300_beats(self):
        self.assert_load("1x99 1x99 1x99 1x3", [1] * 300)
        self.assert_load(" ".join(["7"] * 300), [7] * 300)
        self.assert_load("(1x75)x4", [1] * 300)
        self.assert_load("((1x25)x3)x4", [1] * 300)
        self.assert_load("(((1x5)x5)x3)x4", [1] * 300)
        self.assert_load("(1x99)x3 2x2 3", [1] * 297 + [2, 2, 3])

    def test_a_long_text(self):
        load = [TERA - number for number in range(300)]
        text = " ".join(map(str, load))
        self.assertGreater(len(text), 3000)
        self.assert_load(text, load)


class Refused(Loads):

    def test_numbers(self):
        for text in ("1000000000001", "9999999999999", "10000000000000", "00", "01", "007", "0x", "01x2", "-1", "+1",
                     "1.0", "1e3", "1_000", "0x00", "9" * 30, "9" * 5000, "0" * 6000, "1" + "0" * 5999):
            self.assert_refused(text)
            self.assert_refused("1 " + text[:5990])
            self.assert_refused("(" + text[:5990] + ")x2")

    def test_times(self):
        for times in ("", "0", "1", "100", "101", "999", "02", "099", "002", "x2", "-2", "2x2", "2x", " 2", "9" * 5000):
            self.assert_refused("5x" + times)
            self.assert_refused("(5)x" + times)
            self.assert_refused("(5x" + times + ")x2")

    def test_no_times_behind_brackets(self):
        for text in ("(5)", "(5 6)", "(5) 6", "(5)2", "(5)(6)x2", "(5)x2x2", "((5))x2", "((5) 6)x2"):
            self.assert_refused(text)

    def test_four_brackets_deep(self):
        self.assert_refused("((((1)x2)x2)x2)x2")
        self.assert_refused("(1 (2 (3 (4)x2)x2)x2)x2")
        self.assert_refused("1 " + "(" * 2000 + "1" + ")x2" * 1000)

    def test_blanks(self):
        for text in (" ", "  ", " 1", "1 ", "1  2", "1 x2", "1x 2", "( 1)x2", "(1 )x2", "(1) x2", "(1)x 2", "(1  2)x2",
                     " -", "- ", "1 2 ", "(1)x2 ", "( )x2", "(1 2)x2  3"):
            self.assert_refused(text)

    def test_the_empty_text_and_empty_brackets(self):
        for text in ("", "()", "()x2", "(()x2)x2", "1 ()x2", "()x2 1", "(1 ()x2)x2"):
            self.assert_refused(text)

    def test_a_bracket_too_many_or_too_few(self):
        for text in ("(", ")", "(1", "1)", "(1x2", "1)x2", "((1)x2", "(1)x2)", "(1)x2)x2", "((1)x2x2", "(1))x2",
                     "1 )x2 2", ")x2", "(1 2", "(1)x2 (", "1(2)x2", "1 2(3)x2", "1x2(3)x2"):
            self.assert_refused(text)

    def test_a_dash_among_pieces(self):
        for text in ("--", "- -", "- 1", "1 -", "1 - 2", "(-)x2", "-x2", "(- 1)x2", "1-2", "(1)x-", "1x-"):
            self.assert_refused(text)

    def test_x_alone(self):
        for text in ("x", "x2", "1x", "x1x2", "1xx2", "(x)x2", "(x2)x2", "1 x 2", "1X2"):
            self.assert_refused(text)

    def test_other_signs_anywhere(self):
        for sign, text in itertools.product(OTHER_SIGNS, ("1", "10 2x3", "(1 2)x12 4", "-")):
            for place in range(len(text) + 1):
                self.assert_refused(text[:place] + sign + text[place:])
                if place < len(text):
                    self.assert_refused(text[:place] + sign + text[place + 1:])

    def test_301_beats_and_very_many(self):
        for text in ("1x99 1x99 1x99 1x4", "1x99 1x99 1x99 1x2 1 1", "(1x75)x4 1", "1 (1x75)x4", "(1x99)x4", "(1x43)x7",
                     " ".join(["7"] * 301), "((1x99)x99)x99", "(((1x99)x99)x99)x99", "1 (((1x99)x99)x99)x99 2",
                     "((((1x99)x99)x99)x99)x99", "(((1 1 1 1)x5)x5)x3 0", "(1x99 1x99 1x99 1x3 1)x2"):
            self.assert_refused(text)

    def test_each_beginning_of_a_text(self):
        text = "10 (2x3 ((4)x2 5x12)x3 6)x2 7x2"
        whole = load_of(text)
        loads = {"1": [1], "10": [10], text[:-4]: whole[:-2], text[:-2]: whole[:-1]}
        for end in range(len(text)):
            if text[:end] in loads:
                self.assert_load(text[:end], loads[text[:end]])
            else:
                self.assert_refused(text[:end])


class Texts(unittest.TestCase):

    def assert_text(self, load, text):
        with self.subTest(text=text[:80]):
            self.assertEqual(load_text(load), text)
            self.assertIs(type(load_text(load)), str)
            self.assertEqual(load_of(text), load)

    def test_the_empty_load(self):
        self.assert_text([], "-")

    def test_runs_of_each_length(self):
        self.assert_text([5], "5")
        self.assert_text([5] * 2, "5x2")
        self.assert_text([5] * 98, "5x98")
        self.assert_text([5] * 99, "5x99")
        self.assert_text([5] * 100, "5x99 5")
        self.assert_text([5] * 101, "5x99 5x2")
        self.assert_text([5] * 198, "5x99 5x99")
        self.assert_text([5] * 199, "5x99 5x99 5")
        self.assert_text([5] * 297, "5x99 5x99 5x99")
        self.assert_text([5] * 300, "5x99 5x99 5x99 5x3")

    def test_runs_side_by_side(self):
        self.assert_text([0, 0, 1, 0], "0x2 1 0")
        self.assert_text([1, 2, 1, 2], "1 2 1 2")
        self.assert_text([3] * 100 + [4] * 2 + [3] * 99, "3x99 3 4x2 3x99")
        self.assert_text([TERA, TERA, TERA - 1, 0], "1000000000000x2 999999999999 0")

    def test_load_of_it_is_the_load(self):
        chance = random.Random(100)
        for turn in range(200):
            load = []
            while len(load) < chance.randint(0, 299):
                load += [chance.choice((0, 1, 9, 10, TERA))] * chance.choice((1, 1, 2, 98, 99, 100))
            load = load[:300]
            text = load_text(load)
            with self.subTest(text=text):
                self.assertEqual(load_of(text), load)
                self.assertNotIn("(", text)

    def test_a_long_load_as_it_was_told(self):
        self.assertEqual(load_text([2] * 600), " ".join(["2x99"] * 6 + ["2x6"]))


class Asked(unittest.TestCase):

    def test_a_told_list_changed_behind_changes_no_later_one(self):
        for text in ("-", "5", "5x3", "(1 2)x3 4"):
            first = load_of(text)
            kept = list(first)
            first.append(9)
            first[0] = "changed"
            self.assertEqual(load_of(text), kept)
            self.assertIsNot(load_of(text), load_of(text))

    def test_the_load_stays(self):
        load = [1, 1, 2, 3, 3]
        self.assertEqual(load_text(load), load_text(load))
        self.assertEqual(load, [1, 1, 2, 3, 3])


if __name__ == "__main__":
    unittest.main()
