"""Papers looked through by plain rules alone, without knowing how they were come to."""

from freshsheet.leans import web_of
from freshsheet.meanings import meanings_by_cell
from freshsheet.showing import (first_tables, last_tables, mover_shape, mover_table, next_tables, shown_by_tables,
                                with_tables)


def cells_in(row):
    """The cells that stand in a row of a paper."""
    return [row[1]] if row[0] == "plain" else row[1]


def stand_once(paper, web):
    """Whether each cell in a paper is one of the movers of a web, and stands in it once."""
    cells = []
    for row in paper:
        cells.extend(cells_in(row))
    return all([cell in web for cell in cells]) and len(set(cells)) == len(cells)


def levels_by_cell(paper):
    """A dict from each cell in a paper to the level of its row."""
    levels = {}
    for row in paper:
        for cell in cells_in(row):
            levels[cell] = row[3]
    return levels


def leans_lower(row, web, levels):
    """Whether each mover on which a cell in a row leans is one of its knot, or in a row of a lower level."""
    knot = {}
    if row[0] == "knot":
        for cell in row[1]:
            knot[cell] = True
    for cell in cells_in(row):
        for other in web[cell]:
            if other not in knot and (other not in levels or levels[other] >= row[3]):
                return False
    return True


def is_walk(walk, knot, web):
    """Whether a list of cells is a walk of a knot."""
    if len(walk) == 0 or set(walk) != set(knot):
        return False
    return all([other in web[cell] for cell, other in zip(walk, walk[1:] + walk[:1])])


def has_shape(table, cell, meanings):
    """Whether a table has the shape of a mover's."""
    shape = mover_shape(meanings[cell])
    return len(table) == shape[0] and all([len(row) == shape[1] for row in table])


def have_shapes(tables, cells, meanings):
    """Whether there is a table for each of some movers, of its shape."""
    if len(tables) != len(cells):
        return False
    return all([has_shape(table, cell, meanings) for table, cell in zip(tables, cells)])


def is_in_form(row, many, web, meanings):
    """Whether a row is in form but for what its tables tell: a plain one, or a knot's with its walk and so many
    rounds."""
    if row[0] == "plain":
        return has_shape(row[2], row[1], meanings)
    if row[1] != sorted(row[1]) or not is_walk(row[2], row[1], web) or len(row[4]) != many:
        return False
    return all([have_shapes(tables, row[1], meanings) for tables in row[4]])


def tables_in(row, meanings):
    """A dict from each cell in a row to its table."""
    if row[0] == "plain":
        return {row[1]: row[2]}
    return with_tables({}, row[1], last_tables(row[1], row[4], meanings))


def tables_by_cell(paper, meanings):
    """A dict from each cell in a paper to its table."""
    tables = {}
    for row in paper:
        tables.update(tables_in(row, meanings))
    return tables


def is_right(row, meanings, tables, outer):
    """Whether the tables that a row tells are what is reckoned by what the paper shows."""
    if row[0] == "plain":
        return row[2] == mover_table(row[1], meanings, tables, outer)
    ahead = first_tables(row[1], meanings)
    for told in row[4]:
        if told != next_tables(row[1], ahead, meanings, tables, outer):
            return False
        ahead = told
    return True


def lets_by(book, paper, outer):
    """Whether a paper is let by, for a book and an outer function."""
    meanings = meanings_by_cell(book)
    web = web_of(meanings)
    if not stand_once(paper, web) or not all([row[3] >= 0 for row in paper]):
        return False
    levels = levels_by_cell(paper)
    if not all([leans_lower(row, web, levels) and is_in_form(row, book[4], web, meanings) for row in paper]):
        return False
    # Tables are looked into only where all are of the right shape: a part's place is in its anchor's table then.
    tables = tables_by_cell(paper, meanings)
    return all([is_right(row, meanings, tables, outer) for row in paper])


def shown_by(book, paper, cell):
    """What a paper that is let by shows of a cell in it, or of one that is no mover."""
    meanings = meanings_by_cell(book)
    return shown_by_tables(cell, meanings, tables_by_cell(paper, meanings))
