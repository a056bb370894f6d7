"""Fractions: tuples (top, bottom) of integers in least terms, bottom from 1 on."""

from math import gcd

ZERO = (0, 1)
ONE = (1, 1)
HALF = (1, 2)
DIGITS = "0123456789"
# Python itself writes and reads integers of a few thousand digits at most, so they go piece by piece.
PIECE = 18
SHIFT = 1000000000000000000


def is_integer(value):
    """Whether the value is an int that is not a bool."""
    return isinstance(value, int) and not isinstance(value, bool)


def is_fraction(value):
    """Whether the value is a fraction."""
    if not isinstance(value, tuple) or len(value) != 2:
        return False
    top, bottom = value
    if not is_integer(top) or not is_integer(bottom):
        return False
    return bottom > 0 and gcd(top, bottom) == 1


def is_above_nought(value):
    """Whether the value is a fraction above 0."""
    return is_fraction(value) and value[0] > 0


def is_rate(value):
    """Whether the value is a fraction from 0 on."""
    return is_fraction(value) and value[0] >= 0


def is_less(one, other):
    """Whether the first fraction is below the other."""
    return one[0] * other[1] < other[0] * one[1]


def ratio(top, bottom):
    """The fraction top by bottom, in least terms; bottom is not 0."""
    shared = gcd(top, bottom)
    if bottom < 0:
        shared = -shared
    return (top // shared, bottom // shared)


def plus(one, other):
    """The sum of two fractions."""
    return ratio(one[0] * other[1] + other[0] * one[1], one[1] * other[1])


def minus(one, other):
    """The first fraction less the other."""
    return ratio(one[0] * other[1] - other[0] * one[1], one[1] * other[1])


def times(one, other):
    """The product of two fractions."""
    return ratio(one[0] * other[0], one[1] * other[1])


def total(numbers):
    """The sum of a list of fractions."""
    found = ZERO
    for number in numbers:
        found = plus(found, number)
    return found


def fraction_text(number):
    """The fraction as texts write it: TOP, or TOP/BOTTOM."""
    top, bottom = number
    if bottom == 1:
        return _integer_text(top)
    return f"{_integer_text(top)}/{_integer_text(bottom)}"


def read_fraction(word):
    """The fraction that a word of a text tells; None if it tells none."""
    top, stroke, bottom = word.partition("/")
    if not _is_integer_text(top):
        return None
    if stroke == "":
        return (_read_integer(top), 1)
    if not _is_integer_text(bottom):
        return None
    number = (_read_integer(top), _read_integer(bottom))
    # A bottom of 1 is not written, so it is refused where it is.
    if number[1] > 1 and is_fraction(number):
        return number
    return None


def read_row(words):
    """The tuple of the fractions that the words tell; None if there is no word, or one tells none."""
    numbers = tuple([read_fraction(word) for word in words])
    if numbers == () or None in numbers:
        return None
    return numbers


def _is_integer_text(word):
    """Whether the word is an integer as Python writes it."""
    digits = word[1:] if word[:1] == "-" else word
    if digits == "" or not all([sign in DIGITS for sign in digits]):
        return False
    return digits[0] != "0" or word == "0"


def _integer_text(number):
    """The integer as Python writes it."""
    high, pieces = abs(number), []
    while high >= SHIFT:
        high, low = divmod(high, SHIFT)
        pieces.append(str(low).zfill(PIECE))
    sign = "-" if number < 0 else ""
    return sign + str(high) + "".join(reversed(pieces))


def _read_integer(word):
    """The integer that a word tells as Python writes it."""
    digits = word[1:] if word[:1] == "-" else word
    padded = "0" * (-len(digits) % PIECE) + digits
    number = 0
    for start in range(0, len(padded), PIECE):
        number = number * SHIFT + int(padded[start:start + PIECE])
    return -number if word[:1] == "-" else number
