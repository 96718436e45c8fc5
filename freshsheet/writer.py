"""The texts of formulas."""

from freshsheet.formulas import BINDINGS, parts_of
from freshsheet.places import COLUMN_LETTERS
from freshsheet.values import value_text

# Tighter than any sign.
TIGHTEST = 6


def standing(text, stands):
    """A row's or column's text, with a `$` ahead where it stands."""
    return "$" + text if stands else text


def column_text(column, stands):
    """The text of a column."""
    return standing(COLUMN_LETTERS[column - 1], stands)


def corner_text(corner):
    """The text of a corner."""
    return column_text(corner[1], corner[3]) + standing(str(corner[0]), corner[2])


def reference_text(formula):
    """The text of a cell, a range or columns."""
    sheet = "" if formula[1] is None else formula[1] + "!"
    if formula[0] == "cell":
        return sheet + corner_text(formula[2])
    if formula[0] == "range":
        return sheet + corner_text(formula[2]) + ":" + corner_text(formula[3])
    return sheet + column_text(formula[2][0], formula[2][1]) + ":" + column_text(formula[3][0], formula[3][1])


def written_value(value):
    """The text of a value in a formula."""
    # Elsewhere a text is shown behind a `'`; here it has an end.
    if value[0] == "text":
        return '"' + value[1] + '"'
    return value_text(value)


def call_text(word, things):
    """The text of a word, and of things in brackets behind it."""
    return word + "(" + ";".join(things) + ")"


def word_text(formula):
    """The text of a formula that is written as a word and its parts."""
    things = [formula_text(part) for part in parts_of(formula)]
    if formula[0] == "own":
        return call_text(formula[1], things)
    if formula[0] == "sumif":
        things.insert(1, formula[2])
    if formula[0] == "grid":
        things = [str(formula[1]), str(formula[2])] + things
    return call_text(formula[0], things)


def binding_of(formula):
    """How tightly a formula's own sign binds."""
    if formula[0] == "op":
        return BINDINGS[formula[1]]
    return BINDINGS.get(formula[0], TIGHTEST)


def part_text(part, least):
    """The text of a part, in brackets where it binds more loosely than its place lets."""
    if binding_of(part) < least:
        return "(" + formula_text(part) + ")"
    return formula_text(part)


def op_text(formula):
    """The text of two parts with a sign between."""
    binding = BINDINGS[formula[1]]
    # Of alike binding the left one goes first, so the right part has to bind tighter.
    return part_text(formula[2], binding) + formula[1] + part_text(formula[3], binding + 1)


def formula_text(formula):
    """The text of a formula."""
    kind = formula[0]
    if kind == "value":
        return written_value(formula[1])
    if kind == "cell" or kind == "range" or kind == "columns":
        return reference_text(formula)
    if kind == "gone":
        return "#"
    if kind == "name":
        return formula[1]
    if kind == "param":
        return "?" + str(formula[1])
    if kind == "op":
        return op_text(formula)
    if kind == "neg":
        return "-" + part_text(formula[1], BINDINGS["neg"])
    return word_text(formula)
