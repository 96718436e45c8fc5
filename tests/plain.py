"""Shapes, tables and meanings, told word by word as the document tells them, and books made by a seeded chance."""

from fractions import Fraction

from freshsheet.books import book_of
from freshsheet.formulas import is_formula
from freshsheet.openings import open_up
from freshsheet.places import read_cell
from freshsheet.reader import read_formula
from freshsheet.values import read_value, value_text
from samples import number, op

SHEETS = ("main", "side", "sum", "a")
NO = ("truth", False)
YES = ("truth", True)
NONE = ("none",)


def num(top, bottom=1):
    """The value of a number."""
    fraction = Fraction(top, bottom)
    return ("number", fraction.numerator, fraction.denominator)


def text(signs):
    """The value of a text."""
    return ("text", signs)


def fault(word, cell=("main", 16, 8)):
    """A fault, of a cell at the end of a sheet where none is told."""
    return ("fault", word, cell)


def one_of(value):
    """The table of a single value."""
    return ((value,),)


def content_of(signs):
    """The content that signs write: a formula behind a `=`, or a value."""
    return ("formula", read_formula(signs[1:])) if signs.startswith("=") else read_value(signs)


def book(contents, names=None, owns=None, sheets=("main", "side"), rounds=0):
    """A book of texts: of cells on the sheet main, or with their sheet, of names, of own functions (count, formula)."""
    cells = [(place(cell), content_of(signs)) for cell, signs in contents.items()]
    return book_of(sheets, cells, [(name, read_formula(signs)) for name, signs in (names or {}).items()],
                   [(name, count, read_formula(signs)) for name, (count, signs) in (owns or {}).items()], rounds)


def place(signs):
    """The cell of a text, on the sheet main where no sheet is told."""
    return read_cell(signs if "!" in signs else "main!" + signs)


def cells_of_sheets(there):
    return [(sheet, row, column) for sheet in there[0] for row in range(1, 17) for column in range(1, 9)]


def plain_shape(tree):
    """The shape of an opened formula, by [14]."""
    kind = tree[0]
    shapes = [plain_shape(part) for part in tree[1:] if isinstance(part, tuple) and isinstance(part[0], str)
              and kind not in ("value", "fault")]
    if None in shapes:
        return None
    if kind == "range":
        (low_row, low_column), (high_row, high_column) = tree[2][:2], tree[3][:2]
        return (len(range(low_row, high_row + 1)), len(range(low_column, high_column + 1)))
    if kind == "if" and shapes[0] != (1, 1):
        return None
    if kind in ("op", "if"):
        unlike = sorted({shape for shape in shapes[-2:] if shape != (1, 1)})
        return {0: (1, 1), 1: unlike[:1] and unlike[0]}.get(len(unlike))
    if kind == "neg":
        return shapes[0]
    if kind == "turn":
        return tuple(reversed(shapes[0]))
    if kind == "stack":
        return (shapes[0][0] + shapes[1][0], shapes[0][1]) if shapes[0][1] == shapes[1][1] else None
    if kind == "grid":
        return tree[1:3] if shapes == [(1, 1), (1, 1)] else None
    fits = {"sumif": lambda: shapes[0] == shapes[2] and shapes[1] == (1, 1),
            "find": lambda: shapes[0] == shapes[2] == (1, 1), "outer": lambda: shapes[0] == (1, 1)}
    return (1, 1) if fits.get(kind, lambda: True)() else None


class Reckoner:
    """Reckons opened formulas for a cell, by [16] and [17], with fractions and a function for each place."""

    def __init__(self, cell, shows, outer):
        self.cell = cell
        self.shows = shows
        self.outer = outer

    def made(self, word):
        return ("fault", word, self.cell)

    def of_number(self, fraction):
        if max(len(str(abs(fraction.numerator))), len(str(fraction.denominator))) > 30:
            return self.made("great")
        return ("number", fraction.numerator, fraction.denominator)

    def signed(self, sign, one, other):
        for value in (one, other):
            if value[0] == "fault":
                return value
        if sign == "=":
            return YES if one == other else NO
        if sign == "&":
            signs = "".join(value[1] if value[0] == "text" else value_text(value) for value in (one, other))
            return text(signs) if len(signs) <= 20 and "-" not in signs and "/" not in signs else self.made("kind")
        if sign == "<" and (one[0], other[0]) == ("text", "text"):
            return YES if sorted([one[1], other[1]]) == [one[1], other[1]] and one != other else NO
        if {one[0], other[0]} - {"number", "none"}:
            return self.made("kind")
        a, b = [Fraction(0) if value == NONE else Fraction(value[1], value[2]) for value in (one, other)]
        if sign == "<":
            return YES if a < b else NO
        if sign == "/" and b == 0:
            return self.made("nought")
        return self.of_number({"+": lambda: a + b, "-": lambda: a - b, "*": lambda: a * b, "/": lambda: a / b}[sign]())

    def ended(self, kind, values):
        for value in values:
            if value[0] == "fault":
                return value
        numbers = [Fraction(value[1], value[2]) for value in values if value[0] == "number"]
        if kind in ("least", "most"):
            return self.of_number({"least": min, "most": max}[kind](numbers)) if numbers else NONE
        return self.of_number(Fraction(len(numbers)) if kind == "count" else sum(numbers, Fraction(0)))

    def found(self, key, table, column):
        for value in (key, column):
            if value[0] == "fault":
                return value
        if column not in [num(k + 1) for k in range(len(table[0]))]:
            return self.made("kind")
        rows = [row for row in table if row[0] == key]
        return rows[0][column[1] - 1] if rows else self.made("miss")

    def leaf(self, tree):
        if tree[0] == "value":
            return [[tree[1]]]
        if tree[0] == "fault":
            return [[self.made(tree[1])]]
        first, last = tree[2], tree[-1]
        return [[self.shows((tree[1], row, column)) for column in range(first[1], last[1] + 1)]
                for row in range(first[0], last[0] + 1)]

    def chosen(self, condition, tables):
        table = tables[1] if condition == YES else tables[2]
        if condition[0] == "fault":
            return lambda row, column: condition
        if condition not in (YES, NO, NONE):
            return lambda row, column: self.made("kind")
        return lambda row, column: self.at(table, row, column)

    def at(self, table, row, column):
        return table[0][0] if len(table) == len(table[0]) == 1 else table[row][column]

    def places(self, tree, tables):
        """A function of a row and a column that tells the value there."""
        kind = tree[0]
        if kind == "op":
            return lambda row, column: self.signed(tree[1], self.at(tables[0], row, column),
                                                   self.at(tables[1], row, column))
        if kind == "neg":
            return lambda row, column: self.signed("-", num(0), tables[0][row][column])
        if kind == "if":
            return self.chosen(tables[0][0][0], tables)
        if kind == "turn":
            return lambda row, column: tables[0][column][row]
        if kind == "stack":
            return lambda row, column: (tables[0] + tables[1])[row][column]
        first, step = tables[0][0][0], tables[1][0][0]
        return lambda row, column: self.signed("+", first, self.signed("*", step, num(tree[2] * row + column)))

    def single(self, tree, tables):
        values = [value for row in tables[0] for value in row]
        if tree[0] == "sumif":
            asked = tables[1][0][0]
            if asked[0] == "fault":
                return asked
            summed = [value for row in tables[2] for value in row]
            return self.ended("sum", [value for key, value in zip(values, summed)
                                      if self.signed(tree[2], key, asked) == YES])
        if tree[0] == "find":
            return self.found(values[0], tables[1], tables[2][0][0])
        if tree[0] == "outer":
            return values[0] if values[0][0] == "fault" else self.outer(values[0])
        return self.ended(tree[0], values)

    def table(self, tree):
        """The table, as a list of lists."""
        tables = [self.table(part) for part in tree[1:] if isinstance(part, tuple) and isinstance(part[0], str)
                  and tree[0] not in ("value", "fault")]
        if not tables:
            return self.leaf(tree)
        if tree[0] in ("op", "neg", "if", "turn", "stack", "grid"):
            high, wide = plain_shape(tree)
            told = self.places(tree, tables)
            return [[told(row, column) for column in range(wide)] for row in range(high)]
        return [[self.single(tree, tables)]]


def plain_reckoned(tree, cell, shows, outer):
    """The table of an opened formula."""
    return tuple(tuple(row) for row in Reckoner(cell, shows, outer).table(tree))


def area_places(cell, shape):
    """The set of all places of an area, on the sheet or off it."""
    return {(cell[0], cell[1] + row, cell[2] + column) for row in range(shape[0]) for column in range(shape[1])}


def plain_meanings(there):
    """A dict of the meanings of all cells of a book that aren't empty, by [15]."""
    contents = dict(there[1])
    formulas = {cell: content[1] for cell, content in contents.items() if content[0] == "formula"}
    opened = {cell: open_up(there, cell[0], formula) for cell, formula in formulas.items()}
    shapes = {cell: plain_shape(tree) for cell, tree in opened.items()}
    areas = {cell: area_places(cell, shape) for cell, shape in shapes.items() if shape not in (None, (1, 1))}
    told = {cell: ("value", content) for cell, content in contents.items() if cell not in opened}
    for cell, tree in opened.items():
        around = areas.get(cell, {cell})
        on_sheet = {place for place in around if place[1] <= 16 and place[2] <= 8}
        blocked = cell in areas and (
            on_sheet != around or (around & set(contents)) != {cell}
            or any(on_sheet & area for other, area in areas.items() if other != cell))
        told[cell] = ("bad", "shape") if shapes[cell] is None else ("bad", "blocked") if blocked else (
            "formula", tree, shapes[cell])
        if told[cell][0] == "formula":
            for place in around - {cell}:
                told[place] = ("part", cell, place[1] - cell[1], place[2] - cell[2])
    return told


def some_block(chance, shape, sheets, high=16, wide=8):
    """A cell or range of a shape, somewhere in the first rows and columns."""
    row = chance.randint(1, max(1, high - shape[0] + 1))
    column = chance.randint(1, max(1, wide - shape[1] + 1))
    first = (row, column, chance.random() < 0.3, chance.random() < 0.3)
    if shape == (1, 1) and chance.random() < 0.7:
        return ("cell", chance.choice(sheets), first)
    last = (row + shape[0] - 1, column + shape[1] - 1, False, chance.random() < 0.3)
    return ("range", chance.choice(sheets), first, last)


def some_single(chance, sheets, leaves):
    """A leaf of a single value."""
    kind = chance.choice(["number", "number", "text", "truth", "cell", "cell"] + leaves)
    if kind == "number":
        return number(chance.choice([0, 1, 2, 3, 7, 999999999]))
    if kind == "text":
        return ("value", text(chance.choice(["", "a", "b c", "z" * 15, "0"])))
    if kind == "truth":
        return ("value", chance.choice([YES, NO]))
    return some_block(chance, (1, 1), sheets) if kind == "cell" else kind


def some_fitting(chance, shape, deep, sheets, leaves=()):
    """A formula of a shape, at most so deep; leaves are more leaves of a single value that it may have."""
    def part(of_shape):
        return some_fitting(chance, of_shape, deep - 1, sheets, leaves)

    some_shape = (chance.randint(1, 3), chance.randint(1, 3))
    if deep <= 1 or chance.random() < 0.15:
        leaf = some_single(chance, sheets, list(leaves))
        return leaf if shape == (1, 1) else some_block(chance, shape, sheets, 8)
    kinds = ["op", "op", "op", "neg", "if", "turn"] + (["stack"] if shape[0] > 1 else [])
    kinds += ["grid"] if shape[0] <= 16 and shape[1] <= 8 else []
    if shape == (1, 1):
        kinds += ["sum", "count", "least", "most", "sumif", "sumif", "find", "find", "outer"]
    kind = chance.choice(kinds)
    if kind in ("op", "if"):
        pair = chance.choice([(shape, shape), (shape, (1, 1)), ((1, 1), shape)])
        one, other = part(pair[0]), part(pair[1])
        return op(chance.choice("+-*/&=<"), one, other) if kind == "op" else ("if", part((1, 1)), one, other)
    if kind == "turn":
        return ("turn", part((shape[1], shape[0])))
    if kind == "stack":
        above = chance.randint(1, shape[0] - 1)
        return ("stack", part((above, shape[1])), part((shape[0] - above, shape[1])))
    if kind == "grid":
        return ("grid", shape[0], shape[1], part((1, 1)), part((1, 1)))
    if kind == "sumif":
        return ("sumif", part(some_shape), chance.choice("=<"), part((1, 1)), part(some_shape))
    if kind == "find":
        return ("find", part((1, 1)), part(some_shape), part((1, 1)))
    return (kind, part({"neg": shape, "outer": (1, 1)}.get(kind, some_shape)))


def some_value(chance):
    """A value of any kind."""
    return chance.choice([NONE, num(0), num(1), num(2), num(-7, 3), num(10 ** 30 - 1), num(1, 10 ** 29 + 1), text(""),
                          text("a"), text("b c"), text("z" * 20), YES, NO, fault("kind"), fault("miss")])


def bounded(make, params):
    """What a function makes, made again until it is a formula of no more than so many params."""
    while True:
        formula = make()
        if is_formula(formula, params):
            return formula


def some_book(chance, high=8, wide=6, deep=4):
    """The five parts of a book whose cells stand in the first rows and columns of its sheets."""
    sheets = list(SHEETS[:chance.randint(1, 4)])
    told = sheets + ["none"] * (chance.random() < 0.3)
    called = [("name", "one"), ("name", "two"), ("own", "zero", ()), ("own", "twice", (number(2),)), ("gone",)]

    def formula(params, of_sheets, more=()):
        shape = chance.choice([(1, 1)] * 5 + [(2, 1), (1, 2), (2, 2), (3, 2)])
        return bounded(lambda: some_fitting(chance, shape, chance.randint(1, deep), of_sheets, list(more)), params)

    cells = {}
    for k in range(chance.randint(0, 25)):
        cell = (chance.choice(sheets), chance.randint(1, high), chance.randint(1, wide))
        cells[cell] = ("formula", formula(0, [None] * 3 + told, called)) if chance.random() < 0.7 else chance.choice(
            [num(1), num(5, 2), text("a"), YES])
    names = [(name, formula(0, told, called)) for name in ("one", "two") if chance.random() < 0.8]
    owns = [("zero", 0, formula(0, told, called))] * (chance.random() < 0.8)
    owns += [("twice", 1, formula(1, told, called + [("param", 0)] * 5))] * (chance.random() < 0.8)
    return (sheets, list(cells.items()), names, owns, chance.randint(0, 4))
