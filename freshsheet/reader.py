"""Formulas read from their texts, sign by sign.

Each sign is taken only where some text goes on with it; so a text that isn't read is refused at the place that the
reader has come to. Nothing here calls itself, as brackets may stand in one another as deep as a text is long.
"""

from freshsheet.errors import NoText
from freshsheet.formulas import (
    BINDINGS, LENGTHS, MOST_OWN_PARTS, MOST_PARAMS, OP_SIGNS, SUMIF_SIGNS, WORDS, is_too_great, parts_of, with_parts,
)
from freshsheet.numbers import FIGURES
from freshsheet.places import COLUMN_LETTERS, LAST_COLUMN, LAST_ROW, LETTERS, LONGEST_NAME
from freshsheet.values import MOST_SIGNS, SIGNS

# No formula has this sign, so it stands for the end of a text.
END = "\n"
MOST_WRITTEN_FIGURES = 9


class Cursor:
    """A place in a text, which goes on sign by sign."""

    def __init__(self, text):
        self.text = text
        self.at = 0

    def is_done(self):
        """Whether the text is at its end."""
        return self.at == len(self.text)

    def sign_here(self):
        """The sign at the place."""
        return END if self.is_done() else self.text[self.at]

    def skips(self, sign):
        """Whether a sign stands here; then the place goes on behind it."""
        if self.sign_here() != sign:
            return False
        self.at += 1
        return True

    def must_skip(self, sign):
        """Goes on behind a sign that has to stand here."""
        if not self.skips(sign):
            raise NoText(self.at)

    def run_of(self, signs, most):
        """The signs from here on, at most so many, that are all among some; the place goes on behind them."""
        first = self.at
        while self.at - first < most and self.sign_here() in signs:
            self.at += 1
        return self.text[first:self.at]

    def one_of(self, words):
        """The longest of some words that stands here; the place goes on behind it."""
        first = self.at
        while not self.is_done() and begins_any(self.text[first:self.at + 1], words):
            self.at += 1
        word = self.text[first:self.at]
        if word not in words:
            raise NoText(self.at)
        return word


def begins_any(signs, words):
    """Whether one of some words begins with some signs."""
    return any([word.startswith(signs) for word in words])


def read_whole_within(cursor, least, greatest):
    """A whole number within two bounds."""
    return int(cursor.one_of([str(whole) for whole in range(least, greatest + 1)]))


def read_column(cursor, least):
    """A column from the least one on, and whether it stands."""
    stands = cursor.skips("$")
    letter = cursor.one_of(list(COLUMN_LETTERS[least - 1:LAST_COLUMN]))
    return (COLUMN_LETTERS.find(letter) + 1, stands)


def read_row(cursor, least):
    """A row from the least one on, and whether it stands."""
    stands = cursor.skips("$")
    return (read_whole_within(cursor, least, LAST_ROW), stands)


def corner_of(row, column):
    """The corner of a row and a column, each told with whether it stands."""
    return (row[0], column[0], row[1], column[1])


def read_reference(cursor, sheet):
    """A cell, a range or columns of a sheet."""
    column = read_column(cursor, 1)
    if cursor.skips(":"):
        return ("columns", sheet, column, read_column(cursor, column[0]))
    row = read_row(cursor, 1)
    if not cursor.skips(":"):
        return ("cell", sheet, corner_of(row, column))
    last_column = read_column(cursor, column[0])
    last_row = read_row(cursor, row[0])
    return ("range", sheet, corner_of(row, column), corner_of(last_row, last_column))


def read_quoted(cursor):
    """A text, behind its first quote."""
    signs = cursor.run_of(SIGNS, MOST_SIGNS)
    cursor.must_skip('"')
    return ("value", ("text", signs))


def read_figures(cursor):
    """A whole number; of one that begins with a nought this is all."""
    most = 1 if cursor.sign_here() == "0" else MOST_WRITTEN_FIGURES
    return ("value", ("number", int(cursor.run_of(FIGURES, most)), 1))


def read_leaf(cursor):
    """A formula without parts that doesn't begin with a small letter."""
    if cursor.skips("#"):
        return ("gone",)
    if cursor.skips("?"):
        return ("param", read_whole_within(cursor, 0, MOST_PARAMS - 1))
    if cursor.skips('"'):
        return read_quoted(cursor)
    if cursor.sign_here() in FIGURES:
        return read_figures(cursor)
    return read_reference(cursor, None)


class Shell:
    """Brackets that aren't closed yet, or the whole text around them, and what stands in them so far."""

    def __init__(self, hull, least, most):
        # The formula whose parts stand in the brackets, to be given these parts; None where they are brackets alone.
        self.hull = hull
        self.least = least
        self.most = most
        self.parts = []
        self.operands = []
        self.signs = []

    def fold(self, binding):
        """Puts together the operands whose signs bind at least as tightly as told."""
        while len(self.signs) > 0 and BINDINGS[self.signs[-1]] >= binding:
            sign = self.signs.pop()
            operand = self.operands.pop()
            if sign == "neg":
                self.operands.append(("neg", operand))
            else:
                self.operands.append(("op", sign, self.operands.pop(), operand))

    def end_part(self):
        """Puts the operands together to a part."""
        self.fold(0)
        self.parts.append(self.operands.pop())

    def has_room(self):
        """Whether another part may stand behind the one that is being read."""
        return len(self.parts) + 1 < self.most

    def may_close(self):
        """Whether the part that is being read may be the last one."""
        return len(self.parts) + 1 >= self.least

    def closed(self):
        """The formula that the brackets make."""
        self.end_part()
        return self.parts[0] if self.hull is None else with_parts(self.hull, self.parts)


def hull_of(cursor, word):
    """The formula of a word, its parts still to come; what stands ahead of the parts is read."""
    hull = [word] + [None] * (LENGTHS[word] - 1)
    if word == "grid":
        hull[1] = read_whole_within(cursor, 1, LAST_ROW)
        cursor.must_skip(";")
        hull[2] = read_whole_within(cursor, 1, LAST_COLUMN)
        cursor.must_skip(";")
    return tuple(hull)


def begin_word(cursor, shells, word):
    """Begins a formula that is written as a word and its parts."""
    cursor.must_skip("(")
    hull = hull_of(cursor, word)
    many = len(parts_of(hull))
    shells.append(Shell(hull, many, many))


def read_called(cursor, shells, name):
    """A name, or an own function without parts; None where an own function's parts are to come."""
    if not cursor.skips("("):
        return ("name", name)
    hull = ("own", name, ())
    if cursor.skips(")"):
        return hull
    shells.append(Shell(hull, 1, MOST_OWN_PARTS))
    return None


def read_operand(cursor, shells):
    """An operand that stands here, whole; None where only what stands ahead of it is read."""
    if cursor.skips("-"):
        shells[-1].signs.append("neg")
        return None
    if cursor.skips("("):
        shells.append(Shell(None, 1, 1))
        return None
    word = cursor.run_of(LETTERS, LONGEST_NAME)
    if word == "":
        return read_leaf(cursor)
    # Sheets may be called like the words of formulas.
    if cursor.skips("!"):
        return read_reference(cursor, word)
    if word == "yes" or word == "no":
        return ("value", ("truth", word == "yes"))
    if word in WORDS:
        begin_word(cursor, shells, word)
        return None
    return read_called(cursor, shells, word)


def take_operand(cursor, shells):
    """Reads on behind the next operand, and behind the brackets that are closed there."""
    operand = None
    while operand is None:
        operand = read_operand(cursor, shells)
    shells[-1].operands.append(operand)
    while len(shells) > 1 and shells[-1].may_close() and cursor.skips(")"):
        shell = shells.pop()
        shells[-1].operands.append(shell.closed())


def take_sign(cursor, shell):
    """Reads on behind what stands between two operands."""
    sign = cursor.sign_here()
    if sign in OP_SIGNS:
        cursor.must_skip(sign)
        shell.fold(BINDINGS[sign])
        shell.signs.append(sign)
    else:
        take_break(cursor, shell)


def take_break(cursor, shell):
    """Reads on behind what stands between two parts."""
    if not shell.has_room():
        raise NoText(cursor.at)
    cursor.must_skip(";")
    shell.end_part()
    if shell.hull[0] == "sumif" and len(shell.parts) == 1:
        shell.hull = ("sumif", None, cursor.one_of(SUMIF_SIGNS), None, None)
        cursor.must_skip(";")


def read_formula(text):
    """The formula that a text writes; else NoText."""
    if not isinstance(text, str):
        raise NoText(0)
    cursor = Cursor(text)
    shells = [Shell(None, 1, 1)]
    take_operand(cursor, shells)
    while len(shells) > 1 or not cursor.is_done():
        take_sign(cursor, shells[-1])
        take_operand(cursor, shells)
    formula = shells[0].closed()
    if is_too_great(formula):
        raise NoText(len(text))
    return formula
