"""Cells and blocks of sheets."""

from freshsheet.errors import NoText
from freshsheet.numbers import is_whole, read_whole

LETTERS = "abcdefghijklmnopqrstuvwxyz"
COLUMN_LETTERS = "ABCDEFGHIJKLMNOPQRSTUVWXYZ"
LONGEST_NAME = 6
LAST_ROW = 16
LAST_COLUMN = 8


def is_sheet_name(thing):
    """Whether a thing is a sheet's name."""
    if not isinstance(thing, str) or len(thing) < 1 or len(thing) > LONGEST_NAME:
        return False
    return all([sign in LETTERS for sign in thing])


def is_within(thing, last):
    """Whether a thing is a whole number from 1 to the last."""
    return is_whole(thing) and 1 <= thing and thing <= last


def is_cell(thing):
    """Whether a thing is a cell."""
    if not isinstance(thing, tuple) or len(thing) != 3:
        return False
    return is_sheet_name(thing[0]) and is_within(thing[1], LAST_ROW) and is_within(thing[2], LAST_COLUMN)


def is_block(thing):
    """Whether a thing is a block."""
    if not isinstance(thing, tuple) or len(thing) != 5:
        return False
    if not is_cell((thing[0], thing[1], thing[2])) or not is_cell((thing[0], thing[3], thing[4])):
        return False
    return thing[1] <= thing[3] and thing[2] <= thing[4]


def cell_text(cell):
    """The text of a cell, as `main!B3`."""
    sheet = cell[0]
    row = cell[1]
    letter = COLUMN_LETTERS[cell[2] - 1]
    return f"{sheet}!{letter}{row}"


def read_cell(text):
    """The cell that a text writes; else NoText."""
    if not isinstance(text, str):
        raise NoText(0)
    halves = text.partition("!")
    row = read_whole(halves[2][1:], 2)
    # A letter that isn't found makes column 0, and a later one than H a column too far: both are no cell.
    column = COLUMN_LETTERS.find(halves[2][0]) + 1
    cell = (halves[0], row, column)
    if not is_cell(cell):
        raise NoText(0)
    return cell


def cells_of(block):
    """The cells of a block, row by row."""
    cells = []
    for row in range(block[1], block[3] + 1):
        for column in range(block[2], block[4] + 1):
            cells.append((block[0], row, column))
    return cells


def block_of_one(cell):
    """The block of a single cell."""
    return (cell[0], cell[1], cell[2], cell[1], cell[2])


def blocks_meet(one, other):
    """Whether two blocks have a cell in common."""
    rows_meet = one[1] <= other[3] and other[1] <= one[3]
    columns_meet = one[2] <= other[4] and other[2] <= one[4]
    return one[0] == other[0] and rows_meet and columns_meet


def lies_within(one, other):
    """Whether each cell of the first block is one of the second."""
    rows_within = other[1] <= one[1] and one[3] <= other[3]
    columns_within = other[2] <= one[2] and one[4] <= other[4]
    return one[0] == other[0] and rows_within and columns_within
