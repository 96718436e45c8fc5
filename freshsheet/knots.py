"""Knots of movers that lean on each other, walks through them, and the levels of movers."""

from freshsheet.leans import web_of
from freshsheet.meanings import meanings_by_cell
from freshsheet.webs import closed_walk, groups_of, part_of_web


def is_knot(group, web):
    """Whether a group of movers is a knot: more than one, or one that leans on itself."""
    return len(group) > 1 or group[0] in web[group[0]]


def level_above(group, web, levels):
    """The least number above the levels of all movers, not of a group, on which one of the group leans."""
    level = 0
    for mover in group:
        for other in web[mover]:
            # The levels of the group itself aren't told yet.
            if other in levels and levels[other] >= level:
                level = levels[other] + 1
    return level


def levels_in(groups, web):
    """A dict from each mover to its level; each group stands behind those on which it leans."""
    levels = {}
    for group in groups:
        level = level_above(group, web, levels)
        for mover in group:
            levels[mover] = level
    return levels


def knots_of(book):
    """The sorted list of the knots of a book, each a sorted list of movers."""
    web = web_of(meanings_by_cell(book))
    return sorted([group for group in groups_of(web) if is_knot(group, web)])


def walk_of(book, knot):
    """A walk of a knot of a book: each of its cells leans on the next, the last on the first."""
    return closed_walk(part_of_web(web_of(meanings_by_cell(book)), knot))


def levels_of(book):
    """The sorted list of pairs (mover, level) of a book."""
    web = web_of(meanings_by_cell(book))
    return sorted(levels_in(groups_of(web), web).items())
