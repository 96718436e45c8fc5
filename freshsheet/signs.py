"""What the signs of formulas make of two values. A fault that is made has the cell for which it is made."""

from freshsheet.numbers import difference_of, is_less, product_of, quotient_of, sum_of
from freshsheet.values import is_short_number, is_text, value_text

NOUGHT = ("number", 0, 1)


def number_in(value):
    """The number that a value counts as; None where it counts as none."""
    if value[0] == "none":
        return (0, 1)
    return (value[1], value[2]) if value[0] == "number" else None


def number_value(number, cell):
    """The value of a number, or the fault great."""
    if is_short_number(number[0], number[1]):
        return ("number", number[0], number[1])
    return ("fault", "great", cell)


def reckoned_numbers(sign, a, b, cell):
    """What a sign makes of two numbers."""
    if sign == "+":
        return number_value(sum_of(a, b), cell)
    if sign == "-":
        return number_value(difference_of(a, b), cell)
    if sign == "*":
        return number_value(product_of(a, b), cell)
    if sign == "/":
        return ("fault", "nought", cell) if b[0] == 0 else number_value(quotient_of(a, b), cell)
    return ("truth", is_less(a, b))


def signs_in(value):
    """The signs that a value adds to a text."""
    return value[1] if value[0] == "text" else value_text(value)


def joined_texts(one, other, cell):
    """The text of two values, one behind the other."""
    signs = signs_in(one) + signs_in(other)
    return ("text", signs) if is_text(signs) else ("fault", "kind", cell)


def signed(sign, one, other, cell):
    """What a sign makes of two values."""
    for value in (one, other):
        if value[0] == "fault":
            return value
    if sign == "=":
        return ("truth", one == other)
    if sign == "&":
        return joined_texts(one, other, cell)
    if sign == "<" and one[0] == "text" and other[0] == "text":
        return ("truth", one[1] < other[1])
    a = number_in(one)
    b = number_in(other)
    if a is None or b is None:
        return ("fault", "kind", cell)
    return reckoned_numbers(sign, a, b, cell)
