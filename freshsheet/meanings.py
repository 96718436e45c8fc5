"""What the cells of a book mean."""

from freshsheet.openings import Opener
from freshsheet.places import LAST_COLUMN, LAST_ROW, block_of_one, blocks_meet, cells_of
from freshsheet.shapes import ONE_PLACE, shape_of

EMPTY = ("empty",)


def opened_formulas(book):
    """A dict from each cell with a formula to this one, opened, and its shape."""
    openers = {}
    for sheet in book[0]:
        openers[sheet] = Opener(book, sheet)
    opened_by_cell = {}
    for cell, content in book[1]:
        if content[0] == "formula":
            opened = openers[cell[0]].whole_of(content[1])
            opened_by_cell[cell] = (opened, shape_of(opened))
    return opened_by_cell


def area_end(cell, shape):
    """The last row and the last column of the area of a shape from a cell on, perhaps off the sheet."""
    return (cell[1] + shape[0] - 1, cell[2] + shape[1] - 1)


def leaves_sheet(cell, shape):
    """Whether the area of a shape from a cell on leaves the sheet."""
    end = area_end(cell, shape)
    return end[0] > LAST_ROW or end[1] > LAST_COLUMN


def area_on_sheet(cell, shape):
    """The block of a shape from a cell on, as far as it is on the sheet."""
    end = area_end(cell, shape)
    return cell + (min(end[0], LAST_ROW), min(end[1], LAST_COLUMN))


def areas_of(opened_by_cell):
    """A dict from each cell whose formula makes more than a single value to its area on the sheet."""
    areas = {}
    for cell in opened_by_cell:
        shape = opened_by_cell[cell][1]
        if shape is not None and shape != ONE_PLACE:
            areas[cell] = area_on_sheet(cell, shape)
    return areas


def meets_others(cell, areas, book):
    """Whether the area of a cell has another cell with content, or meets another area."""
    area = areas[cell]
    for pair in book[1]:
        other = pair[0]
        block = areas[other] if other in areas else block_of_one(other)
        if other != cell and blocks_meet(area, block):
            return True
    return False


def formula_meaning(cell, opened, shape, areas, book):
    """What a cell with a formula means."""
    if shape is None:
        return ("bad", "shape")
    if cell in areas and (leaves_sheet(cell, shape) or meets_others(cell, areas, book)):
        return ("bad", "blocked")
    return ("formula", opened, shape)


def parts_by_cell(anchor, area):
    """A dict from each other cell of an anchor's area to what it means."""
    parts = {}
    for cell in cells_of(area):
        if cell != anchor:
            parts[cell] = ("part", anchor, cell[1] - anchor[1], cell[2] - anchor[2])
    return parts


def meanings_by_cell(book):
    """A dict from each cell of a book that isn't empty to what it means."""
    opened_by_cell = opened_formulas(book)
    areas = areas_of(opened_by_cell)
    meanings = {}
    for cell, content in book[1]:
        if cell not in opened_by_cell:
            meanings[cell] = ("value", content)
            continue
        opened = opened_by_cell[cell]
        meanings[cell] = formula_meaning(cell, opened[0], opened[1], areas, book)
        if cell in areas and meanings[cell][0] == "formula":
            meanings.update(parts_by_cell(cell, areas[cell]))
    return meanings
