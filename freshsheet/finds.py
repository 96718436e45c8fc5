"""What is found in tables: sums, counts, ends, and rows. The first fault comes, where there is one."""

from freshsheet.numbers import is_less, number_of
from freshsheet.signs import number_value, signed
from freshsheet.tables import values_in


def first_fault(values):
    """The first fault among values; None where there is none."""
    for value in values:
        if value[0] == "fault":
            return value
    return None


def numbers_among(values):
    """The list of the numbers among values."""
    return [(value[1], value[2]) for value in values if value[0] == "number"]


def sum_of_all(numbers):
    """The sum of a list of numbers."""
    tops = {}
    for top, bottom in numbers:
        tops[bottom] = tops.get(bottom, 0) + top
    # Brought to lowest terms once, in the end: step by step that takes long where the bottoms are great and unlike.
    whole_top = 0
    whole_bottom = 1
    for bottom in tops:
        whole_top = whole_top * bottom + tops[bottom] * whole_bottom
        whole_bottom = whole_bottom * bottom
    return number_of(whole_top, whole_bottom)


def sum_among(values, cell):
    """The sum of the numbers among values, or the first fault."""
    fault = first_fault(values)
    return number_value(sum_of_all(numbers_among(values)), cell) if fault is None else fault


def summed_up(table, cell):
    """The sum of the numbers of a table, or the first fault."""
    return sum_among(values_in(table), cell)


def counted_up(table):
    """How many numbers a table has, or the first fault."""
    values = values_in(table)
    fault = first_fault(values)
    return ("number", len(numbers_among(values)), 1) if fault is None else fault


def ends_of(table, most):
    """The least number of a table, or the greatest one, none where there is none; or the first fault."""
    values = values_in(table)
    fault = first_fault(values)
    if fault is not None:
        return fault
    best = None
    for number in numbers_among(values):
        if best is None or (is_less(best, number) if most else is_less(number, best)):
            best = number
    return ("none",) if best is None else ("number", best[0], best[1])


def summed_if(one, sign, value, other, cell):
    """The sum of the numbers of the other table where the one's value, the sign and the value make yes."""
    if value[0] == "fault":
        return value
    chosen = []
    for asked, summand in zip(values_in(one), values_in(other)):
        # A fault is no truth, so its place counts as no.
        if signed(sign, asked, value, cell) == ("truth", True):
            chosen.append(summand)
    return sum_among(chosen, cell)


def is_column_of(value, table):
    """Whether a value is the number of one of a table's columns, from 1 on."""
    return value[0] == "number" and value[2] == 1 and 1 <= value[1] and value[1] <= len(table[0])


def found_at(key, table, at, cell):
    """The value at a column of the first row of a table that begins with the key."""
    fault = first_fault([key, at])
    if fault is not None:
        return fault
    if not is_column_of(at, table):
        return ("fault", "kind", cell)
    for row in table:
        if row[0] == key:
            return row[at[1] - 1]
    return ("fault", "miss", cell)
