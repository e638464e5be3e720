"""The refusals' classes ([2] and the interface)."""

import unittest

from waithands import errors

WITH_WORDS = ("BadLoad", "Beyond", "BadYard", "NoName", "TooLong", "TooWide", "TooMany", "BadAsk")
REFUSALS = WITH_WORDS + ("BadText",)


def class_of(name):
    return getattr(errors, name)


class TheClasses(unittest.TestCase):

    def test_hand_error_stands_straight_under_value_error(self):
        self.assertEqual(errors.HandError.__bases__, (ValueError,))

    def test_each_refusal_stands_straight_under_hand_error(self):
        for name in REFUSALS:
            with self.subTest(name=name):
                self.assertEqual(class_of(name).__bases__, (errors.HandError,))

    def test_none_stands_under_another_one(self):
        for one in REFUSALS:
            for other in REFUSALS:
                if one != other:
                    with self.subTest(one=one, other=other):
                        self.assertFalse(issubclass(class_of(one), class_of(other)))

    def test_each_bears_its_own_name(self):
        for name in REFUSALS + ("HandError",):
            with self.subTest(name=name):
                self.assertEqual(class_of(name).__name__, name)
                self.assertEqual(class_of(name).__module__, "waithands.errors")


class MadeAndTaken(unittest.TestCase):

    def test_each_is_made_with_words(self):
        for name in WITH_WORDS + ("HandError",):
            with self.subTest(name=name):
                self.assertEqual(str(class_of(name)("some words")), "some words")

    def test_each_is_taken_by_its_own_name_and_by_those_above(self):
        for name in WITH_WORDS:
            for above in (class_of(name), errors.HandError, ValueError):
                with self.subTest(name=name, above=above.__name__):
                    with self.assertRaises(above):
                        raise class_of(name)("some words")

    def test_bad_text_has_its_row(self):
        for row in (0, 1, 7, 149, 150, 10 ** 13):
            with self.subTest(row=row):
                self.assertEqual(errors.BadText(row).row, row)

    def test_bad_text_is_taken_with_its_row(self):
        for above in (errors.BadText, errors.HandError, ValueError):
            with self.subTest(above=above.__name__):
                with self.assertRaises(above) as taken:
                    raise errors.BadText(12)
                self.assertEqual(taken.exception.row, 12)

    def test_rows_of_two_bad_texts_are_apart(self):
        one, other = errors.BadText(3), errors.BadText(4)
        self.assertEqual((one.row, other.row), (3, 4))


if __name__ == "__main__":
    unittest.main()
