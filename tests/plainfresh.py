"""Knots, levels, what a book shows, and which papers are let by, told word by word; and books with many knots."""

from freshsheet.books import book_of
from freshsheet.reader import read_formula
from plain import NO, NONE, YES, num, plain_meanings, plain_reckoned, text

SHAPES = ("{r}", "turn({r})", "{r}+{a}", "{a}&{r}", "-{r}", "stack({a};{b})", "grid(2;2;{a};{b})", "grid(1;3;{a};1)",
          "grid(2;1;{a};{a})", "if({a};{r};{b})", "{r}<{r}", "wide", "stack({r};{r})")
SINGLES = ("{a}", "{a}+1", "{a}+{b}", "{a}*{b}-2", "{a}/{b}", "{a}&{b}", "{a}={b}", "{a}<{b}", "if({a};{b};{c})",
           "if({a}<3;{b}+1;{c})", "sum({r})", "count({r})", "least({r})", "most({r})", "sumif({r};<;2;{r})",
           "sumif({r};=;{a};{r})", "find({a};{r};1)", "outer({a})", "outer({a})+{b}", "one", "one+{a}", "twice({a})",
           "twice({a}+{b})", "zero()", "lost", "#", "none!A1", "sum({r})+1", "1", '"a"', "yes", "sum(side!A:B)")


def outer_of(value):
    """An outer function: a number one greater, up to some bound; a text turned about; a truth of all else."""
    if value[0] == "number":
        return num(value[1], value[2]) if abs(value[1]) > 10 ** 9 else num(value[1] + value[2], value[2])
    return text(value[1][::-1]) if value[0] == "text" else YES


def leaf_cells(tree):
    """The set of the cells of the leaves of an opened formula."""
    if tree[0] in ("value", "fault"):
        return set()
    if tree[0] in ("cell", "range"):
        first, last = tree[2], tree[-1]
        return {(tree[1], row, column) for row in range(first[0], last[0] + 1)
                for column in range(first[1], last[1] + 1)}
    parts = [part for part in tree[1:] if isinstance(part, tuple) and isinstance(part[0], str)]
    return set().union(*[leaf_cells(part) for part in parts])


def plain_leanings(meanings):
    """A dict of the sets of the cells on which each mover leans, by [18]."""
    return {cell: {meaning[1]} if meaning[0] == "part" else leaf_cells(meaning[1])
            for cell, meaning in meanings.items() if meaning[0] in ("formula", "part")}


def plain_ways(leanings):
    """A dict of the sets of the movers to which a way of one leaning at least leads from each mover."""
    ways = {cell: {other for other in cells if other in leanings} for cell, cells in leanings.items()}
    while True:
        longer = {cell: cells.union(*[ways[other] for other in cells]) for cell, cells in ways.items()}
        if longer == ways:
            return ways
        ways = longer


def plain_knots(meanings):
    """The sorted list of the knots, by [19]."""
    ways = plain_ways(plain_leanings(meanings))
    return sorted({tuple(sorted(other for other in ways[cell] if cell in ways[other])): None
                   for cell in ways if cell in ways[cell]})


def plain_levels(meanings):
    """A dict of the levels of the movers, by [20]: the least that there are, raised until all fit."""
    leanings = plain_leanings(meanings)
    knot_of = {cell: set(knot) for knot in plain_knots(meanings) for cell in knot}
    levels = {cell: 0 for cell in leanings}
    while True:
        raised = {}
        for cell in levels:
            group = knot_of.get(cell, {cell})
            raised[cell] = max([levels[other] + 1 for one in group for other in leanings[one]
                                if other in levels and other not in group], default=0)
        if raised == levels:
            return levels
        levels = raised


def filled(meaning, value):
    """The table of a mover with a value at each place of its shape."""
    high, wide = meaning[2] if meaning[0] == "formula" else (1, 1)
    return tuple(tuple(value for column in range(wide)) for row in range(high))


def resting(cell, meaning):
    """What a cell that is no mover shows."""
    return {"empty": lambda: NONE, "value": lambda: meaning[1],
            "bad": lambda: ("fault", meaning[1], cell)}[meaning[0]]()


def plain_table(cell, meanings, tables, outer):
    """The table of a mover by the tables of others."""
    def shows(other):
        return tables[other][0][0] if other in tables else resting(other, meanings.get(other, ("empty",)))

    meaning = meanings[cell]
    if meaning[0] == "part":
        return ((tables[meaning[1]][meaning[2]][meaning[3]],),)
    return plain_reckoned(meaning[1], cell, shows, outer)


def plain_rounds(knot, many, meanings, tables, outer):
    """The list of the tables of a knot's cells, dicts by cell, from round 0 on."""
    rounds = [{cell: filled(meanings[cell], NONE) for cell in knot}]
    for k in range(many):
        rounds.append({cell: plain_table(cell, meanings, {**tables, **rounds[k]}, outer) for cell in knot})
    return rounds


def plain_tables(there, outer):
    """A dict of the tables of all movers of a book, by [21]."""
    meanings = plain_meanings(there)
    levels = plain_levels(meanings)
    knot_of = {cell: knot for knot in plain_knots(meanings) for cell in knot}
    tables = {}
    for cell in sorted(levels, key=lambda mover: levels[mover]):
        if cell not in knot_of:
            tables[cell] = plain_table(cell, meanings, tables, outer)
        elif cell not in tables and there[4] == 0:
            tables[cell] = filled(meanings[cell], ("fault", "ring", cell))
        elif cell not in tables:
            tables.update(plain_rounds(knot_of[cell], there[4], meanings, tables, outer)[-1])
    return tables


def plain_shown(there, outer):
    """A dict of what a book shows of all cells that aren't empty."""
    tables = plain_tables(there, outer)
    return {cell: tables[cell][0][0] if cell in tables else resting(cell, meaning)
            for cell, meaning in plain_meanings(there).items()}


def is_plain_walk(walk, knot, leanings):
    """Whether a list is a walk of a list of cells, by [19]."""
    if not walk or not all(cell in knot for cell in walk) or not all(cell in walk for cell in knot):
        return False
    return all(walk[(k + 1) % len(walk)] in leanings[walk[k]] for k in range(len(walk)))


def standing_in(row):
    return [row[1]] if row[0] == "plain" else list(row[1])


def told_tables(paper, meanings):
    """A dict of the tables that a paper tells of its cells, all of them movers."""
    tables = {}
    for row in paper:
        if row[0] == "plain":
            tables[row[1]] = row[2]
            continue
        for k, cell in enumerate(row[1]):
            ring = filled(meanings[cell], ("fault", "ring", cell))
            tables[cell] = row[4][-1][k] if row[4] else ring
    return tables


def knot_fits(row, there, meanings, leanings, levels, tables, outer):
    """Whether a knot row is as [22] says."""
    cells, walk, level, rounds = row[1:]
    if not cells or any(cells[k] >= cells[k + 1] for k in range(len(cells) - 1)):
        return False
    if not is_plain_walk(walk, cells, leanings):
        return False
    if any(other in levels and other not in cells and levels[other] >= level
           for cell in cells for other in leanings[cell]):
        return False
    if len(rounds) != there[4] or any(len(told) != len(cells) for told in rounds):
        return False
    ahead = [filled(meanings[cell], NONE) for cell in cells]
    for told in rounds:
        by_cell = {**tables, **dict(zip(cells, ahead))}
        if list(told) != [plain_table(cell, meanings, by_cell, outer) for cell in cells]:
            return False
        ahead = told
    return True


def plain_lets_by(there, paper, outer):
    """Whether a paper is let by, by [22]."""
    meanings = plain_meanings(there)
    leanings = plain_leanings(meanings)
    standing = [cell for row in paper for cell in standing_in(row)]
    if any(cell not in leanings or standing.count(cell) > 1 for cell in standing):
        return False
    if any(other in leanings and other not in standing for cell in standing for other in leanings[cell]):
        return False
    if any(row[3] < 0 for row in paper):
        return False
    if any(row[0] == "knot" and row[4] and len(row[4][-1]) != len(row[1]) for row in paper):
        return False
    levels = {cell: row[3] for row in paper for cell in standing_in(row)}
    tables = told_tables(paper, meanings)
    if any((len(tables[cell]), {len(row) for row in tables[cell]})
           != (len(filled(meanings[cell], NONE)), {len(filled(meanings[cell], NONE)[0])}) for cell in standing):
        return False
    for row in paper:
        if row[0] == "knot" and not knot_fits(row, there, meanings, leanings, levels, tables, outer):
            return False
        if row[0] == "plain":
            if any(other in levels and levels[other] >= row[3] for other in leanings[row[1]]):
                return False
            if row[2] != plain_table(row[1], meanings, tables, outer):
                return False
    return True


def some_near(chance):
    """The text of a cell near the first one, mostly without a sheet."""
    sheet = chance.choice(["", "", "", "main!", "side!"])
    return sheet + chance.choice("ABC") + str(chance.randint(1, 4))


def some_near_range(chance):
    """The text of a range of two or three cells near the first one."""
    sheet = chance.choice(["", "", "", "side!"])
    column, row = chance.randint(0, 1), chance.randint(1, 3)
    last = chance.choice([(column, row + 1), (column + 1, row), (column, row + 2)])
    return f"{sheet}{'ABC'[column]}{row}:{'ABC'[last[0]]}{last[1]}"


def some_near_text(chance):
    """The text of a formula that leads to cells near the first one."""
    pattern = chance.choice(SINGLES if chance.random() < 0.7 else SHAPES)
    # Each place is filled by itself, so that two ranges may be of unlike shapes.
    while "{" in pattern:
        pattern = pattern.replace("{r}", some_near_range(chance), 1)
        for place in ("{a}", "{b}", "{c}"):
            pattern = pattern.replace(place, some_near(chance), 1)
    return pattern


def some_knotty_book(chance, most=14):
    """A book whose cells stand near each other and lead to each other."""
    cells = {}
    for k in range(chance.randint(1, most)):
        cell = (chance.choice(["main", "main", "side"]), chance.randint(1, 4), chance.randint(1, 4))
        cells[cell] = chance.choice([num(1), num(2), num(-5, 3), text("a"), YES, NO])
        if chance.random() < 0.8:
            cells[cell] = ("formula", read_formula(some_near_text(chance)))
    near = "main!" + chance.choice(["A1", "B2", "A3"])
    names = [("one", read_formula(near)), ("wide", read_formula("side!A1:B1"))]
    owns = [("twice", 1, read_formula("?0+?0")), ("zero", 0, read_formula(near + "&main!A2"))]
    return book_of(["main", "side"], list(cells.items()), names, owns, chance.choice([0, 0, 1, 2, 3, 4]))
