"""Whole numbers and how they are read, and numbers: tuples (top, bottom) in lowest terms."""

from freshsheet.errors import NoNumber, NoText

FIGURES = "0123456789"


def is_whole(thing):
    """Whether a thing is a whole number."""
    # Python counts True and False among its ints; here they are none.
    return isinstance(thing, int) and not isinstance(thing, bool)


def read_whole(text, most):
    """The whole number that a text of one to `most` figures writes, without noughts ahead; else NoText."""
    if len(text) == 0 or len(text) > most:
        raise NoText(0)
    # isdigit would let by figures of other scripts.
    if not all([sign in FIGURES for sign in text]):
        raise NoText(0)
    if text[0] == "0" and text != "0":
        raise NoText(0)
    return int(text)


def greatest_divisor(one, other):
    """The greatest number that divides both whole numbers, 0 where both are 0."""
    greater = abs(one)
    lesser = abs(other)
    while lesser != 0:
        rest = greater % lesser
        greater = lesser
        lesser = rest
    return greater


def is_number(top, bottom):
    """Whether two whole numbers are the top and the bottom of a number."""
    return bottom >= 1 and greatest_divisor(top, bottom) == 1


def number_of(top, bottom):
    """The number that is top over bottom."""
    if bottom == 0:
        raise NoNumber("nothing is over nought")
    divisor = greatest_divisor(top, bottom)
    # A divisor below nought turns both signs, so that the bottom comes out above nought.
    if bottom < 0:
        divisor = -divisor
    return (top // divisor, bottom // divisor)


def sum_of(a, b):
    """The sum of two numbers."""
    return number_of(a[0] * b[1] + b[0] * a[1], a[1] * b[1])


def difference_of(a, b):
    """The first number less the second."""
    return number_of(a[0] * b[1] - b[0] * a[1], a[1] * b[1])


def product_of(a, b):
    """The product of two numbers."""
    return number_of(a[0] * b[0], a[1] * b[1])


def quotient_of(a, b):
    """The first number over the second; NoNumber where that is nought."""
    return number_of(a[0] * b[1], a[1] * b[0])


def is_less(a, b):
    """Whether the first number is less than the second."""
    return a[0] * b[1] < b[0] * a[1]
