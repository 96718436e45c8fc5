"""What a book shows."""

from freshsheet.knots import is_knot
from freshsheet.leans import web_of
from freshsheet.meanings import meanings_by_cell
from freshsheet.showing import first_tables, last_tables, mover_table, next_tables, shown_by_tables
from freshsheet.webs import groups_of, part_of_web, ways_from


def web_behind(cells, meanings):
    """The web of the movers among some cells, and of those to which leanings lead from them."""
    web = web_of(meanings)
    return part_of_web(web, list(ways_from([cell for cell in cells if cell in web], web)))


def knot_rounds(knot, many, meanings, tables, outer):
    """The list of so many rounds of a knot, each the list of the tables of its cells."""
    rounds = []
    ahead = first_tables(knot, meanings)
    for turn in range(many):
        ahead = next_tables(knot, ahead, meanings, tables, outer)
        rounds.append(ahead)
    return rounds


def rounds_in(groups, web, many, meanings, tables, outer):
    """The list of the rounds of each group of movers, each group behind those on which it leans; a mover in no knot
    has one round. Their tables are put among those by cell."""
    told = []
    for group in groups:
        if is_knot(group, web):
            rounds = knot_rounds(group, many, meanings, tables, outer)
        else:
            rounds = [[mover_table(group[0], meanings, tables, outer)]]
        tables.update(dict(zip(group, last_tables(group, rounds, meanings))))
        told.append(rounds)
    return told


def tables_behind(cells, book, meanings, outer):
    """A dict of the tables by cell of the movers among some cells, and of those to which leanings lead from them."""
    web = web_behind(cells, meanings)
    tables = {}
    rounds_in(groups_of(web), web, book[4], meanings, tables, outer)
    return tables


def shown_at(book, cell, outer):
    """The value that a book shows of a cell."""
    meanings = meanings_by_cell(book)
    return shown_by_tables(cell, meanings, tables_behind([cell], book, meanings, outer))


def all_shown(book, outer):
    """The sorted list of pairs (cell, value) of all cells of a book that aren't empty."""
    meanings = meanings_by_cell(book)
    tables = tables_behind(list(meanings), book, meanings, outer)
    return [(cell, shown_by_tables(cell, meanings, tables)) for cell in sorted(meanings)]
