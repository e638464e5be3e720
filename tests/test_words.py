"""Names ([3]), whole numbers ([2]) and the words of rows ([4])."""

import unittest

from tests.samples import OTHER_KINDS, nested
from waithands import words


class Names(unittest.TestCase):

    def test_one_to_eight_letters_are_a_name(self):
        for name in ("a", "z", "on", "yard", "abcdefg", "abcdefgh", "ijklmnop", "qrstuvwx", "yz"):
            with self.subTest(name=name):
                self.assertIs(words.is_name(name), True)

    def test_too_few_and_too_many_letters_are_none(self):
        for text in ("", "abcdefghi", "a" * 9, "a" * 100):
            with self.subTest(text=text):
                self.assertIs(words.is_name(text), False)

    def test_other_signs_are_none(self):
        for sign in "A Z 0 9 _ - . ` { ~ \u00e9 \u00df \u0430 \n".split(" ") + [" ", "\t"]:
            for text in (sign, "a" + sign, sign + "a", "a" + sign + "a"):
                with self.subTest(text=text):
                    self.assertIs(words.is_name(text), False)

    def test_what_is_no_text_is_none(self):
        for thing in (0, 1, True, None, [], ["a"], ("a",), {}, {"a": 1}, b"a"):
            with self.subTest(thing=thing):
                self.assertIs(words.is_name(thing), False)


class Numbers(unittest.TestCase):

    def test_whole_numbers_of_any_size(self):
        for number in (0, 1, -1, 12, 10 ** 12, -10 ** 13, 10 ** 100):
            with self.subTest(number=number):
                self.assertIs(words.is_whole(number), True)

    def test_true_and_false_and_other_kinds_are_none(self):
        for thing in list(OTHER_KINDS) + nested(10):
            with self.subTest(thing=thing):
                self.assertIs(words.is_whole(thing), False)
                self.assertIs(words.is_from(thing, 0), False)
                self.assertIs(words.is_between(thing, 0, 1), False)

    def test_from_the_least_up(self):
        self.assertIs(words.is_from(2, 3), False)
        self.assertIs(words.is_from(3, 3), True)
        self.assertIs(words.is_from(10 ** 100, 3), True)

    def test_from_the_least_to_the_most(self):
        told = [words.is_between(number, 3, 5) for number in range(2, 7)]
        self.assertEqual(told, [False, True, True, True, False])


class WrittenNumbers(unittest.TestCase):

    def test_figures(self):
        for text, number in (("0", 0), ("7", 7), ("10", 10), ("1234567890", 1234567890), ("1000000000000", 10 ** 12)):
            told = words.number_of(text, 0, 10 ** 12)
            self.assertEqual(told, number)
            self.assertIs(type(told), int)

    def test_from_the_least_to_the_most(self):
        told = [words.number_of(str(number), 3, 5) for number in range(2, 7)]
        self.assertEqual(told, [None, 3, 4, 5, None])
        self.assertIsNone(words.number_of("1000000000001", 0, 10 ** 12))

    def test_what_is_not_so_written(self):
        others = ("1\n", "1_0", "1.0", "a", "1a", "a1", "x", "\u0661", "\u00b2")
        for text in ("", "00", "01", "-1", "+1", " 1", "1 ") + others:
            with self.subTest(text=text):
                self.assertIsNone(words.number_of(text, 0, 10 ** 12))

    def test_very_many_figures(self):
        for text in ("9" * 14, "9" * 5000, "1" + "0" * 6000, "0" * 6000):
            self.assertIsNone(words.number_of(text, 0, 10 ** 12))


class Shapes(unittest.TestCase):

    SHAPE = ("put", words.ANY_NAME, (1, 12), words.ANY_WORD, ("up", "down"))

    def test_what_is_asked_for_stands_there(self):
        self.assertEqual(words.found_in("put a 1 x/y up", self.SHAPE), ["a", 1, "x/y", "up"])
        self.assertEqual(words.found_in("put abcdefgh 12 put down", self.SHAPE), ["abcdefgh", 12, "put", "down"])
        self.assertEqual(words.found_in("put", ("put",)), [])
        self.assertEqual(words.found_in("", (words.ANY_WORD,)), [""])
        self.assertEqual(words.found_in("0/7", ((0, 9), (0, 9)), "/"), [0, 7])

    def test_what_is_otherwise(self):
        for text in (
            "", "put", "Put a 1 x up", "put  a 1 x up", " put a 1 x up", "put a 1 x up ", "put a 1 x up up",
            "put A 1 x up", "put abcdefghi 1 x up", "put a 0 x up", "put a 13 x up", "put a 01 x up", "put a 1 x over",
            "put a 1 x updown", "put a 1 x", "put a 1 up",
        ):
            with self.subTest(text=text):
                self.assertIsNone(words.found_in(text, self.SHAPE))
        for text in ("0/7/1", "0", "0 7", "/", "0/", "/7", "0/10"):
            self.assertIsNone(words.found_in(text, ((0, 9), (0, 9)), "/"))


class TheWords(unittest.TestCase):

    def test_the_words_of_rows(self):
        self.assertEqual(words.WHATS, ("come", "done", "wait"))
        self.assertEqual((words.OVER, words.UNDER, words.EACH), ("over", "under", "each"))


if __name__ == "__main__":
    unittest.main()
