"""Books: tuples (sheets, cells, names, owns, rounds); how they are made, and what their cells mean."""

from freshsheet.errors import NoBook
from freshsheet.formulas import MOST_PARAMS, all_parts, is_formula, is_formula_name
from freshsheet.meanings import EMPTY, meanings_by_cell
from freshsheet.numbers import is_whole
from freshsheet.places import is_cell, is_sheet_name
from freshsheet.values import is_value

MOST_SHEETS = 4
MOST_CELLS = 60
MOST_NAMES = 8
MOST_OWNS = 6
MOST_ROUNDS = 4


def is_row(thing, most):
    """Whether a thing is a list or a tuple of no more than so many things."""
    return isinstance(thing, (list, tuple)) and len(thing) <= most


def is_tuple_of(thing, many):
    """Whether a thing is a tuple of so many things."""
    return isinstance(thing, tuple) and len(thing) == many


def is_up_to(thing, most):
    """Whether a thing is a whole number from 0 to the most."""
    return is_whole(thing) and 0 <= thing and thing <= most


def is_content(thing):
    """Whether a thing is the content of a cell."""
    if is_value(thing):
        return thing[0] != "none" and thing[0] != "fault"
    if not is_tuple_of(thing, 2) or not isinstance(thing[0], str):
        return False
    return thing[0] == "formula" and is_formula(thing[1], 0)


def tells_sheets(formula):
    """Whether each cell, range and columns in a formula has its sheet told."""
    references = [part for part in all_parts(formula) if part[0] in ("cell", "range", "columns")]
    return all([reference[1] is not None for reference in references])


def is_book_formula(thing, params):
    """Whether a thing is the formula of a name or an own function of so many params."""
    return is_formula(thing, params) and tells_sheets(thing)


def is_cell_pair(thing, sheets):
    """Whether a thing is a cell on one of the sheets, with its content."""
    if not is_tuple_of(thing, 2) or not is_cell(thing[0]):
        return False
    return thing[0][0] in sheets and is_content(thing[1])


def is_name_pair(thing):
    """Whether a thing is a name with its formula."""
    return is_tuple_of(thing, 2) and is_formula_name(thing[0]) and is_book_formula(thing[1], 0)


def is_own(thing):
    """Whether a thing is an own function."""
    if not is_tuple_of(thing, 3) or not is_formula_name(thing[0]):
        return False
    return is_up_to(thing[1], MOST_PARAMS) and is_book_formula(thing[2], thing[1])


def are_sheets(thing):
    """Whether a thing is a list or tuple of the sheets of a book."""
    if not is_row(thing, MOST_SHEETS) or len(thing) == 0 or not all([is_sheet_name(name) for name in thing]):
        return False
    return len(set(thing)) == len(thing)


def has_each_once(pairs):
    """Whether the tuples of a list begin with unlike things."""
    return len(set([pair[0] for pair in pairs])) == len(pairs)


def are_cells(thing, sheets):
    """Whether a thing is a list or tuple of the cells of a book with these sheets."""
    if not is_row(thing, MOST_CELLS) or not all([is_cell_pair(pair, sheets) for pair in thing]):
        return False
    return has_each_once(thing)


def are_names(thing):
    """Whether a thing is a list or tuple of the names of a book."""
    return is_row(thing, MOST_NAMES) and all([is_name_pair(pair) for pair in thing]) and has_each_once(thing)


def are_owns(thing):
    """Whether a thing is a list or tuple of the own functions of a book."""
    return is_row(thing, MOST_OWNS) and all([is_own(own) for own in thing]) and has_each_once(thing)


def sorted_by_first(pairs):
    """Tuples that begin with unlike things, sorted by these."""
    return tuple(sorted(pairs, key=lambda pair: pair[0]))


def book_of(sheets, cells, names, owns, rounds):
    """The book of its five parts; else NoBook."""
    if not are_sheets(sheets):
        raise NoBook("these are no sheets of a book")
    if not are_cells(cells, sheets):
        raise NoBook("these are no cells of a book with these sheets")
    if not are_names(names):
        raise NoBook("these are no names of a book")
    if not are_owns(owns):
        raise NoBook("these are no own functions of a book")
    if not is_up_to(rounds, MOST_ROUNDS):
        raise NoBook("these are no rounds of a book")
    return (tuple(sheets), sorted_by_first(cells), sorted_by_first(names), sorted_by_first(owns), rounds)


def content_at(book, cell):
    """The content of a cell of a book; None where it has none."""
    for pair in book[1]:
        if pair[0] == cell:
            return pair[1]
    return None


def meaning_of(book, cell):
    """What a cell means in a book."""
    return meanings_by_cell(book).get(cell, EMPTY)


def meanings_of(book):
    """The sorted list of pairs (cell, meaning) of all cells of a book that aren't empty."""
    return sorted(meanings_by_cell(book).items())
