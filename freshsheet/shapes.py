"""The shapes of opened formulas: tuples (how many rows, how many columns)."""

from freshsheet.formulas import all_parts, block_led_to, told_by_parts

ONE_PLACE = (1, 1)


def block_shape(block):
    """The shape of a block."""
    return (block[3] - block[1] + 1, block[4] - block[2] + 1)


def fitted_shape(one, other):
    """The shape of two parts place by place, one of a single place standing for each; None where they don't fit."""
    if one == other or other == ONE_PLACE:
        return one
    return other if one == ONE_PLACE else None


def stacked_shape(one, other):
    """The shape of one part above the other; None where they aren't as wide."""
    return (one[0] + other[0], one[1]) if one[1] == other[1] else None


def are_single(shapes):
    """Whether all shapes are those of a single place."""
    return all([shape == ONE_PLACE for shape in shapes])


def single_shape(formula, shapes):
    """The shape of a formula that makes a single value; None where its parts don't fit."""
    kind = formula[0]
    if kind == "sumif":
        return ONE_PLACE if shapes[0] == shapes[2] and shapes[1] == ONE_PLACE else None
    if kind == "find":
        return ONE_PLACE if shapes[0] == ONE_PLACE and shapes[2] == ONE_PLACE else None
    if kind == "outer":
        return shapes[0] if shapes[0] == ONE_PLACE else None
    return ONE_PLACE


def shape_by_parts(formula, shapes):
    """The shape of a formula whose parts have these shapes, None among them; None where there is no shape."""
    kind = formula[0]
    if None in shapes:
        return None
    if kind == "range":
        return block_shape(block_led_to(formula))
    if kind == "op":
        return fitted_shape(shapes[0], shapes[1])
    if kind == "neg":
        return shapes[0]
    if kind == "if":
        return fitted_shape(shapes[1], shapes[2]) if shapes[0] == ONE_PLACE else None
    if kind == "turn":
        return (shapes[0][1], shapes[0][0])
    if kind == "stack":
        return stacked_shape(shapes[0], shapes[1])
    if kind == "grid":
        return (formula[1], formula[2]) if are_single(shapes) else None
    return single_shape(formula, shapes)


def shape_of(opened):
    """The shape of an opened formula; None where it has none."""
    return told_by_parts(all_parts(opened), shape_by_parts)
