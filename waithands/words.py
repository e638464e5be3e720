"""The words, names and kinds of numbers that several files need."""

# In the order of the numbers in a triple that was seen.
WHATS = ("come", "done", "wait")

OVER = "over"
UNDER = "under"
EACH = "each"

LETTERS = "abcdefghijklmnopqrstuvwxyz"
MOST_LETTERS = 8
FIGURES = "0123456789"
MOST_FIGURES = 13

MOST_UNITS = 10 ** 12
MOST_HANDS = 12

# What a shape has in the place of a word that is a name, and of one that may be anything.
ANY_NAME = ()
ANY_WORD = None


def is_whole(thing):
    """Whether it is a whole number; True and False are none."""
    return isinstance(thing, int) and not isinstance(thing, bool)


def is_from(thing, least):
    """Whether it is a whole number from least up."""
    return is_whole(thing) and thing >= least


def is_between(thing, least, most):
    """Whether it is a whole number from least to most."""
    return is_whole(thing) and least <= thing <= most


def is_tuple_of(thing, many):
    """Whether it is a tuple of so many things."""
    return isinstance(thing, tuple) and len(thing) == many


def is_name(thing):
    """Whether it is a name: one to eight letters from a to z."""
    if not isinstance(thing, str) or not 1 <= len(thing) <= MOST_LETTERS:
        return False
    return all([sign in LETTERS for sign in thing])


def number_of(text, least, most):
    """The number from least to most that a text writes by figures, None where it is none such."""
    # No number here has more figures than 10 ** 12, and Python reads only so many.
    if not 1 <= len(text) <= MOST_FIGURES or not all([sign in FIGURES for sign in text]):
        return None
    if text[0] == "0" and text != "0":
        return None
    number = int(text)
    return number if least <= number <= most else None


def found_in(text, shape, sign=" "):
    """The list of what a text writes where a shape asks for it, None where it isn't written by that shape.

    Between two words stands the sign. A shape has a part for each word: a text, which is the word itself; a tuple of
    texts, of which it is one; a pair of numbers, between which it writes one; ANY_NAME; or ANY_WORD.
    """
    words = text.split(sign)
    if len(words) != len(shape):
        return None
    asked = [(word, part) for word, part in zip(words, shape) if word != part]
    found = [asked_value(word, part) for word, part in asked]
    return None if None in found else found


def asked_value(word, part):
    """What a word tells of the part of a shape that asks for it, None where it is none such."""
    if part == ANY_WORD:
        return word
    if isinstance(part, str):
        return None
    if part == ANY_NAME:
        return word if is_name(word) else None
    if isinstance(part[0], str):
        return word if word in part else None
    least, most = part
    return number_of(word, least, most)
