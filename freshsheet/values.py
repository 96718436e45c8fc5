"""Values, and the texts that show them."""

from freshsheet.errors import NoText
from freshsheet.numbers import is_number, is_whole, read_whole
from freshsheet.places import cell_text, is_cell, read_cell

SIGNS = "abcdefghijklmnopqrstuvwxyz0123456789 "
FAULTS = ("kind", "nought", "gone", "name", "shape", "blocked", "miss", "ring", "great")
MOST_SIGNS = 20
MOST_FIGURES = 30
GREATEST_WHOLE = 999999999999999999999999999999


def has_few_figures(thing):
    """Whether a thing is a whole number of no more figures than a value's number has."""
    return is_whole(thing) and abs(thing) <= GREATEST_WHOLE


def is_short_number(top, bottom):
    """Whether two things are the top and bottom of a value's number."""
    return has_few_figures(top) and has_few_figures(bottom) and is_number(top, bottom)


def is_text(thing):
    """Whether a thing is the signs of a value's text."""
    if not isinstance(thing, str) or len(thing) > MOST_SIGNS:
        return False
    return all([sign in SIGNS for sign in thing])


def is_fault_word(thing):
    """Whether a thing is the word of a fault."""
    return isinstance(thing, str) and thing in FAULTS


def is_value(thing):
    """Whether a thing is a value."""
    if not isinstance(thing, tuple) or len(thing) == 0 or not isinstance(thing[0], str):
        return False
    kind = thing[0]
    if kind == "none":
        return len(thing) == 1
    if kind == "number":
        return len(thing) == 3 and is_short_number(thing[1], thing[2])
    if kind == "text":
        return len(thing) == 2 and is_text(thing[1])
    if kind == "truth":
        return len(thing) == 2 and isinstance(thing[1], bool)
    if kind == "fault":
        return len(thing) == 3 and is_fault_word(thing[1]) and is_cell(thing[2])
    return False


def number_text(top, bottom):
    """The text of a number."""
    if bottom == 1:
        return f"{top}"
    return f"{top}/{bottom}"


def value_text(value):
    """The text that shows a value."""
    kind = value[0]
    if kind == "none":
        return ""
    if kind == "number":
        return number_text(value[1], value[2])
    if kind == "text":
        return "'" + value[1]
    if kind == "truth":
        return "yes" if value[1] else "no"
    return "!" + value[1] + " " + cell_text(value[2])


def number_meant(text):
    """What a text would show as a number, perhaps over nought or not in lowest terms; else NoText."""
    halves = text.partition("/")
    below = halves[0].startswith("-")
    top = read_whole(halves[0][1:] if below else halves[0], MOST_FIGURES)
    bottom = 1 if halves[1] == "" else read_whole(halves[2], MOST_FIGURES)
    return ("number", -top if below else top, bottom)


def fault_meant(text):
    """What a text behind its `!` would show as a fault, perhaps with a word of none; else NoText."""
    halves = text.partition(" ")
    return ("fault", halves[0], read_cell(halves[2]))


def thing_meant(text):
    """What a text would show, perhaps no value; else NoText."""
    if text == "":
        return ("none",)
    if text == "yes" or text == "no":
        return ("truth", text == "yes")
    if text.startswith("'"):
        return ("text", text[1:])
    if text.startswith("!"):
        return fault_meant(text[1:])
    return number_meant(text)


def read_value(text):
    """The value that a text shows; else NoText."""
    if not isinstance(text, str):
        raise NoText(0)
    value = thing_meant(text)
    # A text that is read is the very one that is written: so `-0` and `5/1` show nothing.
    if not is_value(value) or value_text(value) != text:
        raise NoText(0)
    return value
