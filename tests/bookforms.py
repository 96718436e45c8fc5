"""What a book is, told word by word, and odd things to spoil one with."""

from math import gcd

from plain import NO, NONE, YES, fault, num, text
from samples import A1, ONE, WORDS

LETTERS = "abcdefghijklmnopqrstuvwxyz"


class Alike:
    """A thing that tells that it is the same as any, and can't be compared otherwise."""

    def __eq__(self, other):
        return True

    __hash__ = None


class Loud:
    """A thing that fails where it is compared, walked, measured or asked for a truth."""

    def fail(self, *things):
        raise RuntimeError

    __eq__ = __ne__ = __lt__ = __gt__ = __le__ = __ge__ = __len__ = __iter__ = __bool__ = __getitem__ = fail
    __contains__ = __hash__ = __repr__ = __str__ = fail


ODD = [None, True, False, 0, 1, 2, -1, 3, 5, 17, 10 ** 61, 0.0, 1.0, 1.5, float("nan"), "", "a", "main", "side",
       "formula", "number", "none", "A", "sum", "abcdefg", "cell", b"main", [], [1], ["main"], (), (1,), ("main",),
       ("a", "b"), {}, {"main": 1}, set(), frozenset(), object, object(), Alike(), Loud(), len, lambda: 1, range(3),
       ONE, A1, ("main", 1, 1), ("side", 1, 1), ("gone",), ("param", 0), ("param", 3), NONE, YES, NO, num(1),
       num(1, 2), text("a"), fault("kind"), ("formula", ONE), ("formula", A1), ("formula", ("param", 0)),
       ("number", 1, True), ("truth", 1), ("text", "A"), ("number", 2, 4)]


def with_thing(whole, path, thing):
    """A whole of lists and tuples with another thing at a place that a path of numbers leads to."""
    if not path:
        return thing
    parts = list(whole)
    parts[path[0]] = with_thing(parts[path[0]], path[1:], thing)
    return tuple(parts) if isinstance(whole, tuple) else parts


def paths_in(whole):
    """The paths to all things in a whole of lists and tuples."""
    told = [()]
    if isinstance(whole, (list, tuple)):
        for k, part in enumerate(whole):
            told += [(k,) + path for path in paths_in(part)]
    return told


def is_list(thing, least, most):
    """Whether a thing is a list or a tuple of so many things."""
    return type(thing) in (list, tuple) and least <= len(thing) <= most


def is_tuple(thing, many):
    return type(thing) is tuple and len(thing) == many


def is_word(thing):
    return type(thing) is str and 1 <= len(thing) <= 6 and all(sign in LETTERS for sign in thing)


def is_called(thing):
    return is_word(thing) and thing not in WORDS


def is_from(thing, least, most):
    return type(thing) is int and least <= thing <= most


def is_truth(thing):
    return type(thing) is bool


def is_content_value(thing):
    """Whether a thing is a number, a text or a truth."""
    if type(thing) is not tuple or len(thing) < 2 or type(thing[0]) is not str:
        return False
    if thing[0] == "number":
        most = 10 ** 30 - 1
        short = len(thing) == 3 and is_from(thing[1], -most, most) and is_from(thing[2], 1, most)
        return short and gcd(thing[1], thing[2]) == 1
    if thing[0] == "text":
        return len(thing) == 2 and type(thing[1]) is str and len(thing[1]) <= 20 and all(
            sign in LETTERS + " 0123456789" for sign in thing[1])
    return thing[0] == "truth" and len(thing) == 2 and is_truth(thing[1])


def is_corner(thing):
    return is_tuple(thing, 4) and is_from(thing[0], 1, 16) and is_from(thing[1], 1, 8) and all(map(is_truth, thing[2:]))


def is_column(thing):
    return is_tuple(thing, 2) and is_from(thing[0], 1, 8) and is_truth(thing[1])


def is_reference(thing, sheets_told):
    """Whether a tuple that begins with such a word is a cell, a range or columns."""
    check, long = {"cell": (is_corner, 3), "range": (is_corner, 4), "columns": (is_column, 4)}[thing[0]]
    if len(thing) != long or not all(map(check, thing[2:])):
        return False
    if not is_word(thing[1]) and (sheets_told or thing[1] is not None):
        return False
    first, last = thing[2], thing[-1]
    return first[0] <= last[0] and (thing[0] == "columns" or first[1] <= last[1])


def is_plain_formula(thing, params, sheets_told):
    """Whether a thing is a formula of the kinds that SPOILED has, not too great, with each sheet told or not."""
    if type(thing) is not tuple or not thing or type(thing[0]) is not str:
        return False
    kind = thing[0]
    if kind in ("cell", "range", "columns"):
        return is_reference(thing, sheets_told)
    lengths = {"gone": 1, "param": 2, "name": 2, "own": 3, "value": 2, "op": 4, "sum": 2, "if": 4}
    if len(thing) != lengths.get(kind):
        return False
    if kind == "value":
        whole = is_content_value(thing[1]) and (thing[1][0] != "number" or thing[1][2] == 1)
        return whole and (thing[1][0] != "number" or 0 <= thing[1][1] <= 999999999)
    if kind == "param":
        return is_from(thing[1], 0, min(params, 3) - 1)
    if kind in ("name", "own") and not is_called(thing[1]):
        return False
    if kind == "op" and not (type(thing[1]) is str and thing[1] in list("+-*/&=<")):
        return False
    if kind == "own" and not (type(thing[2]) is tuple and len(thing[2]) <= 3):
        return False
    parts = {"own": lambda: thing[2], "op": lambda: thing[2:], "name": lambda: ()}.get(kind, lambda: thing[1:])()
    return all(is_plain_formula(part, params, sheets_told) for part in parts)


def is_plain_content(thing):
    """Whether a thing is a content of a cell."""
    if is_tuple(thing, 2) and type(thing[0]) is str and thing[0] == "formula":
        return is_plain_formula(thing[1], 0, False)
    return is_content_value(thing)


def is_plain_cell(thing):
    return is_tuple(thing, 3) and is_word(thing[0]) and is_from(thing[1], 1, 16) and is_from(thing[2], 1, 8)


def is_plain_book(parts):
    """Whether five parts make a book, for formulas of the kinds that SPOILED has, not too great."""
    sheets, cells, names, owns, rounds = parts
    if not is_list(sheets, 1, 4) or not all(map(is_word, sheets)) or len(set(sheets)) < len(sheets):
        return False
    for rows, most, long in ((cells, 60, 2), (names, 8, 2), (owns, 6, 3)):
        if not is_list(rows, 0, most) or not all(is_tuple(row, long) for row in rows):
            return False
    if not all(is_plain_cell(cell) and cell[0] in sheets and is_plain_content(content) for cell, content in cells):
        return False
    if not all(is_called(name) and is_plain_formula(formula, 0, True) for name, formula in names):
        return False
    if not all(is_called(name) and is_from(count, 0, 3) and is_plain_formula(formula, count, True)
               for name, count, formula in owns):
        return False
    each_once = all(len({row[0] for row in rows}) == len(rows) for rows in (cells, names, owns))
    return each_once and is_from(rounds, 0, 4)
