"""Papers told of a book, and of some of its cells."""

from freshsheet.fresh import rounds_in, web_behind
from freshsheet.knots import is_knot, levels_in
from freshsheet.meanings import meanings_by_cell
from freshsheet.webs import closed_walk, groups_of, part_of_web


def row_of(group, rounds, level, web):
    """The row of a paper that tells a group of movers."""
    if is_knot(group, web):
        return ("knot", group, closed_walk(part_of_web(web, group)), level, rounds)
    return ("plain", group[0], rounds[0][0], level)


def paper_of(book, cells, outer):
    """A paper that is let by, with just the movers among some cells and those to which leanings lead from them."""
    meanings = meanings_by_cell(book)
    web = web_behind(cells, meanings)
    groups = groups_of(web)
    levels = levels_in(groups, web)
    told = rounds_in(groups, web, book[4], meanings, {}, outer)
    return [row_of(group, rounds, levels[group[0]], web) for group, rounds in zip(groups, told)]
