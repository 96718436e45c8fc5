"""Opened formulas reckoned to tables, by what cells show. A fault that is made has the cell for which it is made."""

from freshsheet.finds import counted_up, ends_of, found_at, summed_if, summed_up
from freshsheet.formulas import all_parts, block_led_to, told_by_parts
from freshsheet.places import cells_of
from freshsheet.shapes import block_shape, fitted_shape
from freshsheet.signs import NOUGHT, signed
from freshsheet.tables import (filled_table, spread_table, table_in_rows, table_of_one, table_shape, turned_table,
                               values_in)


def shown_table(block, shows):
    """The table of what the cells of a block show."""
    return table_in_rows([shows(cell) for cell in cells_of(block)], block_shape(block)[1])


def leaf_table(leaf, cell, shows):
    """The table of a formula without parts."""
    if leaf[0] == "value":
        return table_of_one(leaf[1])
    if leaf[0] == "fault":
        return table_of_one(("fault", leaf[1], cell))
    return shown_table(block_led_to(leaf), shows)


def signed_table(sign, one, other, cell):
    """What a sign makes of two tables, place by place."""
    shape = fitted_shape(table_shape(one), table_shape(other))
    lefts = values_in(spread_table(one, shape))
    rights = values_in(spread_table(other, shape))
    return table_in_rows([signed(sign, left, right, cell) for left, right in zip(lefts, rights)], shape[1])


def chosen_table(condition, one, other, cell):
    """The one table where the condition is yes, the other where it is no."""
    shape = fitted_shape(table_shape(one), table_shape(other))
    if condition[0] == "fault":
        return filled_table(shape, condition)
    if condition[0] == "none":
        return spread_table(other, shape)
    if condition[0] == "truth":
        return spread_table(one if condition[1] else other, shape)
    return filled_table(shape, ("fault", "kind", cell))


def grid_table(high, wide, first, step, cell):
    """The table that goes from the first value on, row by row, by a step."""
    steps = [signed("*", step, ("number", many, 1), cell) for many in range(high * wide)]
    return table_in_rows([signed("+", first, far, cell) for far in steps], wide)


def outer_value(value, outer):
    """What the outer function tells of a value; of a fault it isn't asked."""
    return value if value[0] == "fault" else outer(value)


def single_value(formula, tables, cell, outer):
    """The value of a formula that makes a single one of the tables of its parts."""
    kind = formula[0]
    first = tables[0]
    if kind == "sum":
        return summed_up(first, cell)
    if kind == "count":
        return counted_up(first)
    if kind == "least" or kind == "most":
        return ends_of(first, kind == "most")
    if kind == "sumif":
        return summed_if(first, formula[2], tables[1][0][0], tables[2], cell)
    if kind == "find":
        return found_at(first[0][0], tables[1], tables[2][0][0], cell)
    return outer_value(first[0][0], outer)


def table_by_parts(formula, tables, cell, shows, outer):
    """The table of a formula whose parts have these tables."""
    kind = formula[0]
    if len(tables) == 0:
        return leaf_table(formula, cell, shows)
    if kind == "op":
        return signed_table(formula[1], tables[0], tables[1], cell)
    if kind == "neg":
        return signed_table("-", table_of_one(NOUGHT), tables[0], cell)
    if kind == "if":
        return chosen_table(tables[0][0][0], tables[1], tables[2], cell)
    if kind == "turn":
        return turned_table(tables[0])
    if kind == "stack":
        return tables[0] + tables[1]
    if kind == "grid":
        return grid_table(formula[1], formula[2], tables[0][0][0], tables[1][0][0], cell)
    return table_of_one(single_value(formula, tables, cell, outer))


def reckoned(opened, cell, shows, outer):
    """The table of an opened formula, reckoned for a cell."""
    return told_by_parts(all_parts(opened),
                         lambda formula, tables: table_by_parts(formula, tables, cell, shows, outer))
