"""What cells show by the tables of movers: the one step by which tables are told, and by which they are looked
through."""

from freshsheet.meanings import EMPTY
from freshsheet.reckon import reckoned
from freshsheet.shapes import ONE_PLACE
from freshsheet.tables import filled_table, table_of_one

NONE = ("none",)


def resting_value(cell, meaning):
    """What a cell that is no mover shows."""
    if meaning[0] == "value":
        return meaning[1]
    if meaning[0] == "bad":
        return ("fault", meaning[1], cell)
    return NONE


def shown_by_tables(cell, meanings, tables):
    """What a cell shows: a mover by its table among these."""
    if cell in tables:
        return tables[cell][0][0]
    return resting_value(cell, meanings.get(cell, EMPTY))


def mover_shape(meaning):
    """The shape of the table of a mover that means this."""
    return ONE_PLACE if meaning[0] == "part" else meaning[2]


def mover_table(cell, meanings, tables, outer):
    """The table of a mover by the tables of those on which it leans."""
    meaning = meanings[cell]
    if meaning[0] == "part":
        return table_of_one(tables[meaning[1]][meaning[2]][meaning[3]])
    return reckoned(meaning[1], cell, lambda other: shown_by_tables(other, meanings, tables), outer)


def with_tables(tables, cells, others):
    """The dict of the tables by cell with those of some cells, in their order, put in."""
    joined = dict(tables)
    joined.update(dict(zip(cells, others)))
    return joined


def first_tables(knot, meanings):
    """The tables of the cells of a knot ahead of all rounds: none at each place."""
    return [filled_table(mover_shape(meanings[cell]), NONE) for cell in knot]


def ring_tables(knot, meanings):
    """The tables of the cells of a knot where there are no rounds."""
    return [filled_table(mover_shape(meanings[cell]), ("fault", "ring", cell)) for cell in knot]


def next_tables(knot, ahead, meanings, tables, outer):
    """The tables of the cells of a knot in a round, by those that they had in the round ahead, and by the tables of
    the others."""
    joined = with_tables(tables, knot, ahead)
    return [mover_table(cell, meanings, joined, outer) for cell in knot]


def last_tables(knot, rounds, meanings):
    """The tables of the cells of a knot behind all rounds, each the list of their tables."""
    return rounds[-1] if len(rounds) > 0 else ring_tables(knot, meanings)
