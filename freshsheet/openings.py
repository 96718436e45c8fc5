"""Formulas opened: with names and own functions put in, and what leads nowhere as faults.

While it is opened, a formula is kept as a row: the list of its parts, each behind its own parts. So params are put in
by putting rows into a row, and a row's length is the count of parts.
"""

from freshsheet.formulas import parts_of, told_by_parts, with_parts
from freshsheet.places import LAST_ROW

MOST_OPENED = 200


def things_called(book):
    """A dict from each name and own function, told as (kind, name), to its count of parts and its formula."""
    called = {}
    for pair in book[2]:
        called[("name", pair[0])] = (0, pair[1])
    for own in book[3]:
        called[("own", own[0])] = (own[1], own[2])
    return called


def range_of_columns(sheet, first, last):
    """The range of whole columns."""
    return ("range", sheet, (1, first[0], True, first[1]), (LAST_ROW, last[0], True, last[1]))


class Opener:
    """Opens formulas on a sheet of a book."""

    def __init__(self, book, sheet):
        self.sheet = sheet
        self.sheets = book[0]
        self.called = things_called(book)
        self.known_rows = {}

    def opened_reference(self, formula):
        """A cell, a range or columns with its sheet told."""
        sheet = self.sheet if formula[1] is None else formula[1]
        if sheet not in self.sheets:
            return ("fault", "gone")
        if formula[0] == "columns":
            return range_of_columns(sheet, formula[2], formula[3])
        return (formula[0], sheet) + formula[2:]

    def opened_alone(self, formula):
        """A formula, its parts aside, as it is opened."""
        kind = formula[0]
        if kind == "gone":
            return ("fault", "gone")
        if kind == "cell" or kind == "range" or kind == "columns":
            return self.opened_reference(formula)
        return formula

    def row_of(self, formula, within):
        """The row of a formula within what is being put in; None where it is too long."""
        if formula[0] == "name" or formula[0] == "own":
            return self.row_put_in(formula, within)
        row = []
        for part in parts_of(formula):
            more = self.row_of(part, within)
            if more is None:
                return None
            row.extend(more)
        row.append(self.opened_alone(formula))
        return row if len(row) <= MOST_OPENED else None

    def row_put_in(self, formula, within):
        """The row of a name or an own function, with its formula in its place."""
        key = (formula[0], formula[1])
        parts = parts_of(formula)
        if key in within or key not in self.called or self.called[key][0] != len(parts):
            return [("fault", "name")]
        row = self.row_called(key, within)
        return None if row is None else self.row_filled(row, parts, within)

    def row_called(self, key, within):
        """The row of the formula of a name or an own function, its params left as they are."""
        inner = tuple(sorted(within + (key,)))
        # Own functions over own functions come to the same formula very often.
        if (key, inner) not in self.known_rows:
            self.known_rows[(key, inner)] = self.row_of(self.called[key][1], inner)
        return self.known_rows[(key, inner)]

    def row_filled(self, row, parts, within):
        """A row with the parts, opened, in the place of its params; None where it is too long."""
        filled = []
        opened = {}
        for node in row:
            if node[0] != "param":
                filled.append(node)
            else:
                # Only here is a part opened: one that is left out may be as great as it will.
                if node[1] not in opened:
                    opened[node[1]] = self.row_of(parts[node[1]], within)
                if opened[node[1]] is None:
                    return None
                filled.extend(opened[node[1]])
        return filled if len(filled) <= MOST_OPENED else None

    def whole_of(self, formula):
        """A formula, opened."""
        row = self.row_of(formula, ())
        return ("fault", "great") if row is None else told_by_parts(row, with_parts)


def open_up(book, sheet, formula):
    """A formula on a sheet of a book, opened."""
    return Opener(book, sheet).whole_of(formula)
