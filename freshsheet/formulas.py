"""Formulas: trees of tuples, what is one, and their parts."""

from freshsheet.numbers import is_whole
from freshsheet.places import LAST_COLUMN, LAST_ROW, is_sheet_name, is_within
from freshsheet.values import is_value

MOST_PARTS = 24
MOST_DEEP = 8
MOST_OWN_PARTS = 3
MOST_PARAMS = 3
GREATEST_WRITTEN = 999999999

# These stand for themselves in a text, so no name and no own function is called so.
WORDS = ("yes", "no", "if", "sum", "count", "least", "most", "sumif", "find", "turn", "stack", "grid", "outer")
OP_SIGNS = ("+", "-", "*", "/", "&", "=", "<")
SUMIF_SIGNS = ("=", "<")
# The greater, the tighter.
BINDINGS = {"=": 1, "<": 1, "&": 2, "+": 3, "-": 3, "*": 4, "/": 4, "neg": 5}

LENGTHS = {
    "value": 2, "cell": 3, "range": 4, "columns": 4, "gone": 1, "name": 2, "own": 3, "param": 2, "op": 4, "neg": 2,
    "if": 4, "sum": 2, "count": 2, "least": 2, "most": 2, "sumif": 5, "find": 4, "turn": 2, "stack": 3, "grid": 5,
    "outer": 2,
}
# An own function isn't here: its parts stand in a tuple of their own.
PART_PLACES = {
    "op": (2, 3), "neg": (1,), "if": (1, 2, 3), "sum": (1,), "count": (1,), "least": (1,), "most": (1,),
    "sumif": (1, 3, 4), "find": (1, 2, 3), "turn": (1,), "stack": (1, 2), "grid": (3, 4), "outer": (1,),
}


def parts_of(formula):
    """The list of the formulas that are parts of a formula, in order."""
    if formula[0] == "own":
        return list(formula[2])
    return [formula[place] for place in PART_PLACES.get(formula[0], ())]


def with_parts(formula, parts):
    """The same formula with other parts."""
    if formula[0] == "own":
        return ("own", formula[1], tuple(parts))
    things = list(formula)
    for place, part in zip(PART_PLACES.get(formula[0], ()), parts):
        things[place] = part
    return tuple(things)


def block_led_to(reference):
    """The block to which a cell or a range with its sheet told leads."""
    first = reference[2]
    last = reference[-1]
    return (reference[1], first[0], first[1], last[0], last[1])


def all_parts(formula):
    """The list of all formulas that a formula is made of, itself among them, each behind its own parts."""
    # No recursion here and in deepness: a text of many signs makes a deep tree before it is found too great, and an
    # opened formula may be two hundred deep.
    waiting = [formula]
    row = []
    while len(waiting) > 0:
        part = waiting.pop()
        row.append(part)
        waiting.extend(parts_of(part))
    return list(reversed(row))


def count_parts(formula):
    """How many formulas a formula is made of, itself among them."""
    return len(all_parts(formula))


def told_by_parts(row, tell_one):
    """What a function of a formula and of what it told of the formula's parts tells of the last one of a row.

    The row has each formula behind its own parts, as all_parts tells it.
    """
    told = []
    for formula in row:
        first = len(told) - len(parts_of(formula))
        one = tell_one(formula, told[first:])
        told = told[:first]
        told.append(one)
    return told[0]


def deepness(formula):
    """How deep a formula is, 1 where it has no parts."""
    level = [formula]
    deep = 0
    while len(level) > 0:
        deep += 1
        below = []
        for part in level:
            below.extend(parts_of(part))
        level = below
    return deep


def is_too_great(formula):
    """Whether a tree has more parts, or is deeper, than a formula may be."""
    return count_parts(formula) > MOST_PARTS or deepness(formula) > MOST_DEEP


def is_formula_name(thing):
    """Whether a thing is what a name or an own function may be called."""
    return is_sheet_name(thing) and thing not in WORDS


def is_one_of(thing, texts):
    """Whether a thing is one of some texts."""
    # A thing that is no text might tell that it is the same as any.
    return isinstance(thing, str) and thing in texts


def is_written_value(thing):
    """Whether a thing is a value that stands in a formula."""
    if not is_value(thing):
        return False
    if thing[0] == "number":
        return thing[2] == 1 and 0 <= thing[1] and thing[1] <= GREATEST_WRITTEN
    return thing[0] == "text" or thing[0] == "truth"


def is_sheet_or_none(thing):
    """Whether a thing tells the sheet of a reference."""
    return thing is None or is_sheet_name(thing)


def is_corner(thing):
    """Whether a thing is a corner."""
    if not isinstance(thing, tuple) or len(thing) != 4:
        return False
    stands = isinstance(thing[2], bool) and isinstance(thing[3], bool)
    return stands and is_within(thing[0], LAST_ROW) and is_within(thing[1], LAST_COLUMN)


def is_column_end(thing):
    """Whether a thing is the first or last of whole columns."""
    if not isinstance(thing, tuple) or len(thing) != 2:
        return False
    return is_within(thing[0], LAST_COLUMN) and isinstance(thing[1], bool)


def is_reference(thing):
    """Whether a tuple of the length of a cell, a range or columns is one."""
    if not is_sheet_or_none(thing[1]):
        return False
    if thing[0] == "columns":
        return is_column_end(thing[2]) and is_column_end(thing[3]) and thing[2][0] <= thing[3][0]
    if not is_corner(thing[2]):
        return False
    if thing[0] == "cell":
        return True
    return is_corner(thing[3]) and thing[2][0] <= thing[3][0] and thing[2][1] <= thing[3][1]


def is_called(thing):
    """Whether a tuple of the length of a name or an own function is one, whatever its parts are."""
    if not is_formula_name(thing[1]):
        return False
    if thing[0] == "name":
        return True
    return isinstance(thing[2], tuple) and len(thing[2]) <= MOST_OWN_PARTS


def is_param(thing, params):
    """Whether a thing is the number of one of some params."""
    return is_whole(thing) and 0 <= thing and thing < min(params, MOST_PARAMS)


def has_form(thing, params):
    """Whether a thing is a tuple as formulas are, whatever its parts are."""
    if not isinstance(thing, tuple) or len(thing) == 0 or not isinstance(thing[0], str):
        return False
    kind = thing[0]
    if len(thing) != LENGTHS.get(kind, 0):
        return False
    if kind == "value":
        return is_written_value(thing[1])
    if kind == "cell" or kind == "range" or kind == "columns":
        return is_reference(thing)
    if kind == "name" or kind == "own":
        return is_called(thing)
    if kind == "param":
        return is_param(thing[1], params)
    if kind == "op":
        return is_one_of(thing[1], OP_SIGNS)
    if kind == "sumif":
        return is_one_of(thing[2], SUMIF_SIGNS)
    if kind == "grid":
        return is_within(thing[1], LAST_ROW) and is_within(thing[2], LAST_COLUMN)
    return True


def is_tree(thing, params, deep):
    """Whether a thing is a tree of such tuples, no more than so deep."""
    if deep == 0 or not has_form(thing, params):
        return False
    return all([is_tree(part, params, deep - 1) for part in parts_of(thing)])


def is_formula(thing, params):
    """Whether a thing is a formula of no more than so many params."""
    return is_tree(thing, params, MOST_DEEP) and count_parts(thing) <= MOST_PARTS
