"""Papers spoiled by a seeded chance: each spoil changes a copy of a paper in place."""

import copy

from freshsheet.leans import leans_on, movers_of
from plain import NONE, YES, cells_of_sheets, num, some_value, text


def some_row(chance, paper, kind=None):
    """The place of a row, of a kind where one is told; None where there is none."""
    places = [k for k, row in enumerate(paper) if kind in (None, row[0])]
    return chance.choice(places) if places else None


def put(paper, place, field, thing):
    """Puts another thing into a field of a row."""
    row = list(paper[place])
    row[field] = thing
    paper[place] = tuple(row)


def with_value(chance, table, value):
    """A table with another value at some place."""
    rows = [list(row) for row in table]
    row = chance.randrange(len(rows))
    rows[row][chance.randrange(len(rows[row]))] = value
    return tuple(tuple(row) for row in rows)


def reshaped(chance, table):
    """A table of another shape."""
    return chance.choice([table + table[:1], tuple(row + row[:1] for row in table), ((table[0][0],),), table[1:] or
                          ((NONE, NONE),), tuple(row[1:] for row in table) if len(table[0]) > 1 else table * 2,
                          tuple(zip(*table))])


def spoiled_table(chance, table):
    return reshaped(chance, table) if chance.random() < 0.3 else with_value(chance, table, some_value(chance))


def spoil_rows(chance, paper, there):
    """A row left out, told twice, put elsewhere, or two exchanged."""
    place = some_row(chance, paper)
    kind = chance.choice(["out", "twice", "other", "turn"])
    if kind == "out":
        paper.pop(place)
    elif kind == "twice":
        paper.insert(chance.randrange(len(paper) + 1), copy.deepcopy(paper[place]))
    elif kind == "other":
        cell = chance.choice(cells_of_sheets(there) + [("none", 1, 1)])
        paper.append(("plain", cell, chance.choice([((NONE,),), ((num(1),),)]), chance.randint(0, 3)))
    else:
        paper.reverse()


def spoil_level(chance, paper, there):
    place = some_row(chance, paper)
    put(paper, place, 3, paper[place][3] + chance.choice([-2, -1, -1, 1, 1, 2, 5]))


def spoil_levels(chance, paper, there):
    """All levels from one on greater or less by some."""
    low, far = chance.randint(0, 3), chance.choice([-1, 1, 2, 10 ** 40])
    for k, row in enumerate(paper):
        if row[3] >= low:
            put(paper, k, 3, row[3] + far)


def spoil_table(chance, paper, there):
    place = some_row(chance, paper, "plain")
    if place is not None:
        put(paper, place, 2, spoiled_table(chance, paper[place][2]))


def spoil_cell(chance, paper, there):
    """Another cell in a row."""
    place = some_row(chance, paper)
    cell = chance.choice(movers_of(there) + cells_of_sheets(there)[:3] + [("none", 2, 2)])
    if paper[place][0] == "plain":
        put(paper, place, 1, cell)
    elif paper[place][1]:
        cells = list(paper[place][1])
        cells[chance.randrange(len(cells))] = cell
        put(paper, place, 1, sorted(cells) if chance.random() < 0.7 else cells)


def spoil_walk(chance, paper, there):
    """A walk turned, drawn out, or spoiled."""
    place = some_row(chance, paper, "knot")
    if place is None:
        return
    walk = list(paper[place][2])
    kind = chance.choice(["turn", "twice", "out", "other", "back", "none", "round"])
    at = chance.randrange(len(walk)) if walk else 0
    if kind == "turn":
        walk = walk[at:] + walk[:at]
    elif kind == "twice":
        walk = walk + walk
    elif kind == "out" and walk:
        walk.pop(at)
    elif kind == "other":
        walk.insert(at, chance.choice(movers_of(there) + paper[place][1] * 3))
    elif kind == "back":
        walk.reverse()
    elif kind == "none":
        walk = []
    elif kind == "round" and walk:
        behind = [cell for cell in leans_on(there, walk[at]) if cell in paper[place][1]]
        walk[at + 1:at + 1] = behind[:1]
    put(paper, place, 2, walk)


def spoil_rounds(chance, paper, there):
    """Rounds too many, too few, with a table too many, too few, or another one."""
    place = some_row(chance, paper, "knot")
    if place is None:
        return
    rounds = copy.deepcopy(paper[place][4])
    kind = chance.choice(["more", "less", "table", "table", "table", "long", "short", "turn"])
    if kind == "more" or not rounds:
        rounds.append(copy.deepcopy(rounds[-1]) if rounds else [((NONE,),) for cell in paper[place][1]])
    elif kind == "less":
        rounds.pop(chance.randrange(len(rounds)))
    else:
        tables = chance.choice(rounds)
        at = chance.randrange(len(tables)) if tables else 0
        if kind == "table" and tables:
            tables[at] = spoiled_table(chance, tables[at])
        elif kind == "long":
            tables.insert(at, chance.choice([((NONE,),), ((YES,),), ((text("a"),),)]))
        elif kind == "short" and tables:
            tables.pop(at)
        else:
            tables.reverse()
    put(paper, place, 4, rounds)


def spoil_knot(chance, paper, there):
    """The cells of a knot in another order, one out, one twice, or none; two knots as one; one as two."""
    place = some_row(chance, paper, "knot")
    if place is None:
        return
    kind, cells, walk, level, rounds = copy.deepcopy(paper[place])
    how = chance.choice(["turn", "out", "twice", "none", "join", "part", "plain", "plainer"])
    at = chance.randrange(len(cells)) if cells else 0
    if how == "turn":
        put(paper, place, 1, cells[::-1])
    elif how == "out" and cells:
        paper[place] = (kind, cells[:at] + cells[at + 1:], walk, level, [told[:at] + told[at + 1:] for told in rounds])
    elif how == "twice" and cells:
        paper[place] = (kind, cells[:at] + cells[at:at + 1] + cells[at:], walk, level,
                        [told[:at] + told[at:at + 1] + told[at:] for told in rounds])
    elif how == "none":
        paper[place] = (kind, [], [], level, [[] for told in rounds])
    elif how == "join":
        other = paper.pop(some_row(chance, paper))
        more = (other[1], other[2], other[4]) if other[0] == "knot" else ([other[1]], [other[1]],
                                                                          [[other[2]] for told in rounds])
        paper.append((kind, sorted(cells + more[0]), walk + more[1], max(level, other[3]),
                      [one + two for one, two in zip(rounds, more[2])]))
    elif how == "part":
        paper.pop(place)
        for half in (slice(0, at), slice(at, len(cells))):
            paper.append((kind, cells[half], [cell for cell in walk if cell in cells[half]], level,
                          [told[half] for told in rounds]))
    elif rounds and how in ("plain", "plainer") and all(len(told) == len(cells) for told in rounds):
        paper.pop(place)
        for k, cell in enumerate(cells):
            paper.append(("plain", cell, rounds[-1][k], level + (k if how == "plain" else len(cells) - k)))


def spoil_kind(chance, paper, there):
    """A mover of no knot told in a knot row."""
    place = some_row(chance, paper, "plain")
    if place is not None:
        kind, cell, table, level = paper[place]
        paper[place] = ("knot", [cell], [cell], level, [[table] for k in range(there[4])])


SPOILS = (spoil_rows, spoil_level, spoil_levels, spoil_table, spoil_table, spoil_cell, spoil_walk, spoil_walk,
          spoil_rounds, spoil_rounds, spoil_knot, spoil_kind)


def spoiled(chance, paper, there):
    """A copy of a paper, spoiled once or more; perhaps still right."""
    spoiled_paper = copy.deepcopy(paper)
    for k in range(chance.choice([1, 1, 1, 2])):
        if spoiled_paper:
            chance.choice(SPOILS)(chance, spoiled_paper, there)
    return spoiled_paper
