"""Fractions: tuples (top, bottom) of integers in least terms, bottom from 1 on."""

from math import gcd

ZERO = (0, 1)
ONE = (1, 1)
DIGITS = "0123456789"


def is_integer(value):
    """Whether the value is an int that is not a bool."""
    return isinstance(value, int) and not isinstance(value, bool)


def is_fraction(value):
    """Whether the value is a fraction."""
    if not isinstance(value, tuple) or len(value) != 2:
        return False
    top, bottom = value
    if not is_integer(top) or not is_integer(bottom):
        return False
    return bottom > 0 and gcd(top, bottom) == 1


def is_above_nought(value):
    """Whether the value is a fraction above 0."""
    return is_fraction(value) and value[0] > 0


def ratio(top, bottom):
    """The fraction top by bottom, in least terms; bottom is not 0."""
    shared = gcd(top, bottom)
    if bottom < 0:
        shared = -shared
    return (top // shared, bottom // shared)


def plus(one, other):
    """The sum of two fractions."""
    return ratio(one[0] * other[1] + other[0] * one[1], one[1] * other[1])


def minus(one, other):
    """The first fraction less the other."""
    return ratio(one[0] * other[1] - other[0] * one[1], one[1] * other[1])


def times(one, other):
    """The product of two fractions."""
    return ratio(one[0] * other[0], one[1] * other[1])


def total(numbers):
    """The sum of a list of fractions."""
    found = ZERO
    for number in numbers:
        found = plus(found, number)
    return found


def fraction_text(number):
    """The fraction as texts write it: TOP, or TOP/BOTTOM."""
    top, bottom = number
    if bottom == 1:
        return str(top)
    return f"{top}/{bottom}"


def read_fraction(word):
    """The fraction that a word of a text tells; None if it tells none."""
    top, stroke, bottom = word.partition("/")
    if not _is_integer_text(top):
        return None
    if stroke == "":
        return (int(top), 1)
    if not _is_integer_text(bottom):
        return None
    number = (int(top), int(bottom))
    # A bottom of 1 is not written, so it is refused where it is.
    if number[1] > 1 and is_fraction(number):
        return number
    return None


def _is_integer_text(word):
    """Whether the word is an integer as Python writes it."""
    digits = word[1:] if word[:1] == "-" else word
    if digits == "" or not all([sign in DIGITS for sign in digits]):
        return False
    return digits[0] != "0" or word == "0"
