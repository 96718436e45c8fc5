"""What the cells of a book lean on."""

from freshsheet.books import meaning_of
from freshsheet.formulas import all_parts, block_led_to
from freshsheet.meanings import meanings_by_cell
from freshsheet.places import cells_of


def leaves_of(opened):
    """The sorted list, each once, of the blocks of the cell and range leaves of an opened formula."""
    leaves = [part for part in all_parts(opened) if part[0] == "cell" or part[0] == "range"]
    return sorted(set([block_led_to(leaf) for leaf in leaves]))


def leanings_of(meaning):
    """The sorted list of the cells on which a cell that means this leans."""
    if meaning[0] == "part":
        return [meaning[1]]
    if meaning[0] != "formula":
        return []
    cells = []
    for block in leaves_of(meaning[1]):
        cells.extend(cells_of(block))
    return sorted(set(cells))


def leans_on(book, cell):
    """The sorted list of the cells on which a cell of a book leans."""
    return leanings_of(meaning_of(book, cell))


def is_mover(meaning):
    """Whether a cell that means this is a formula or a part."""
    return meaning[0] == "formula" or meaning[0] == "part"


def movers_among(meanings):
    """The sorted list of the movers among the cells that have these meanings."""
    return sorted([cell for cell in meanings if is_mover(meanings[cell])])


def movers_of(book):
    """The sorted list of the movers of a book."""
    return movers_among(meanings_by_cell(book))


def web_of(meanings):
    """A dict from each mover among the cells that have these meanings to a dict of the movers on which it leans."""
    movers = movers_among(meanings)
    web = {}
    for mover in movers:
        web[mover] = {}
    for mover in movers:
        for cell in leanings_of(meanings[mover]):
            if cell in web:
                web[mover][cell] = True
    return web
