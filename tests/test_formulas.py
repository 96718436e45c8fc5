"""What a formula is [9], and its parts."""

import random
import unittest

from freshsheet.formulas import count_parts, deepness, is_formula, parts_of, with_parts
from samples import A, A1, AREA, B, B3, C, ONE, SAMPLES, TWO, WORDS, long_sum, neg, negs, number, op, same, some_formula

ODD_THINGS = [None, True, False, 0, 1, 1.0, 1.5, "", "a", "value", b"a", [], {}, set(), object(), (), (None,), (1,),
              ("",), ("a",), ((),), ["value"], ("value", None), [("gone",)], (("gone",),)]
WHOLE_BOUNDS = [True, False, None, 1.0, "1", (1,), [1], 10 ** 60 - 1, 1 - 10 ** 60]

PARTS = [
    (("value", ("number", 1, 1)), []),
    (("value", ("text", "sum")), []),
    (A1, []),
    (AREA, []),
    (("columns", None, (1, False), (2, False)), []),
    (("gone",), []),
    (A, []),
    (("param", 0), []),
    (("own", "f", ()), []),
    (("own", "f", (A,)), [A]),
    (("own", "f", (A, B)), [A, B]),
    (("own", "f", (A, B, A)), [A, B, A]),
    (("op", "-", A, B), [A, B]),
    (("neg", A), [A]),
    (("if", A, B, C), [A, B, C]),
    (("sum", A), [A]),
    (("count", A), [A]),
    (("least", A), [A]),
    (("most", A), [A]),
    (("sumif", A, "<", B, C), [A, B, C]),
    (("find", A, B, C), [A, B, C]),
    (("turn", A), [A]),
    (("stack", A, B), [A, B]),
    (("grid", 2, 3, A, B), [A, B]),
    (("outer", A), [A]),
]


class Alike:
    """A thing that says that it is the same as any other."""

    def __eq__(self, other):
        return True

    def __hash__(self):
        return 0


def spoiled_ones(thing, way=()):
    """All things that come of a tuple by a list in the place of a tuple in it, or one thing more or less."""
    if isinstance(thing, tuple):
        yield way, list(thing)
        # How many parts an own function has is free, up to three.
        if way[-1:] != ("parts",):
            yield way, thing + (1,)
            yield way, thing + (thing[-1],)
            yield way, thing[:-1]
        for place, inner in enumerate(thing):
            is_parts = len(thing) == 3 and thing[0] == "own" and place == 2
            for deeper, spoiled in spoiled_ones(inner, way + ("parts" if is_parts else place,)):
                yield deeper, thing[:place] + (spoiled,) + thing[place + 1:]


class IsFormulaTest(unittest.TestCase):
    def assert_none(self, *things):
        for thing in things:
            self.assertIs(is_formula(thing, 3), False, repr(thing))

    def assert_all(self, *things):
        for thing in things:
            self.assertIs(is_formula(thing, 3), True, repr(thing))

    def test_each_kind(self):
        for formula, text in SAMPLES:
            self.assertIs(is_formula(formula, 3), True, text)

    def test_without_params_where_there_are_none(self):
        for formula, text in SAMPLES:
            self.assertIs(is_formula(formula, 0), "?" not in text, text)

    def test_a_list_for_a_tuple_and_one_thing_more_or_less(self):
        for formula, text in SAMPLES:
            for way, spoiled in spoiled_ones(formula):
                self.assert_none(spoiled)

    def test_words_that_are_none(self):
        for formula, text in SAMPLES:
            for word in ("", "Sum", "sums", "sum ", "add", "fault", "formula", "none", "number", "?", "yes", "+", "="):
                self.assert_none((word,) + formula[1:])
            for other in (None, 1, True, ["sum"], ("sum",), Alike()):
                self.assert_none((other,) + formula[1:])

    def test_a_kind_with_the_things_of_another(self):
        self.assert_none(("cell",) + AREA[1:], ("range",) + A1[1:], ("columns",) + AREA[1:],
                         ("range", None, (1, False), (2, False)), ("neg", A, B), ("op", A, B), ("if", A, B),
                         ("stack", A), ("sum",), ("gone", None), ("name",), ("own", "f"), ("param",), ("value",),
                         ("own", "f", A), ("own", "f", A, B), ("sumif", A, B, C), ("sumif", A, "<", B),
                         ("grid", 2, 3, A), ("grid", A, B), ("find", A, B), ("outer",), ("turn",))

    def test_odd_things_in_each_place(self):
        for thing in ODD_THINGS + [Alike()]:
            self.assert_none(("value", thing), ("cell", None, thing), ("cell", "main", thing),
                             ("range", None, thing, (1, 1, False, False)), ("range", None, (1, 1, False, False), thing),
                             ("columns", None, thing, (1, False)), ("columns", None, (1, False), thing),
                             ("own", "f", (thing,)), ("own", "f", (A, thing)), ("op", thing, A, B),
                             ("op", "+", thing, B), ("op", "+", A, thing), ("neg", thing), ("if", A, thing, C),
                             ("sum", thing), ("sumif", A, thing, B, C), ("sumif", A, "=", B, thing),
                             ("find", A, B, thing), ("stack", thing, A), ("grid", 2, 3, A, thing),
                             ("outer", thing), neg(neg(thing)))
        for thing in ODD_THINGS:
            if thing != () and thing != (("gone",),):
                self.assert_none(("own", "f", thing))
            if thing is not None and thing != "a" and thing != "value":
                self.assert_none(("cell", thing, (1, 1, False, False)))
            if thing != "a" and thing != "value":
                self.assert_none(("name", thing), ("own", thing, ()))

    def test_values(self):
        self.assert_all(number(0), number(999999999), ("value", ("text", "")), ("value", ("text", "a" * 20)))
        self.assert_none(number(-1), number(1000000000), number(True), number(False), number(1.0), number(10 ** 60 - 1),
                         ("value", ("number", 1, 2)), ("value", ("number", 1, True)), ("value", ("number", 1)),
                         ("value", ("number", 2, 2)), ("value", ("number", 0, 0)),
                         ("value", ("text", "a" * 21)), ("value", ("text", "A")), ("value", ("text", 1)),
                         ("value", ("truth", 1)), ("value", ("truth", 0)), ("value", ("truth", "yes")),
                         ("value", ("none",)), ("value", ("fault", "ring", ("main", 1, 1))), ("value", 1),
                         ("value", "a"), ("value", True))

    def test_corners(self):
        for row in range(-1, 19):
            for column in range(-1, 11):
                is_there = 1 <= row <= 16 and 1 <= column <= 8
                corner = (row, column, False, True)
                self.assertIs(is_formula(("cell", None, corner), 0), is_there)
                self.assertIs(is_formula(("range", "a", corner, (16, 8, False, False)), 0), is_there)
                self.assertIs(is_formula(("range", "a", (1, 1, False, False), corner), 0), is_there)
                self.assertIs(is_formula(("columns", None, (column, True), (8, True)), 0), 1 <= column <= 8)
                self.assertIs(is_formula(("columns", None, (1, True), (column, True)), 0), 1 <= column <= 8)
        for thing in WHOLE_BOUNDS:
            self.assert_none(("cell", None, (thing, 1, False, False)), ("cell", None, (1, thing, False, False)),
                             ("range", None, (1, 1, False, False), (thing, 1, False, False)),
                             ("columns", None, (1, False), (thing, False)),
                             ("columns", None, (thing, False), (8, True)))
        for stands in (0, 1, None, "", "$", 1.0, (True,), [], Alike()):
            self.assert_none(("cell", None, (1, 1, stands, False)), ("cell", None, (1, 1, False, stands)),
                             ("range", None, (1, 1, True, stands), (1, 1, True, True)),
                             ("range", None, (1, 1, True, True), (1, 1, stands, True)),
                             ("columns", None, (1, stands), (2, True)), ("columns", None, (1, True), (2, stands)))

    def test_corners_out_of_order(self):
        for row, column, is_right in ((5, 4, True), (6, 5, True), (4, 4, False), (5, 3, False), (16, 3, False),
                                      (4, 8, False), (1, 1, False)):
            self.assertIs(is_formula(("range", None, (5, 4, True, True), (row, column, False, False)), 0), is_right)
        for last, is_right in ((4, True), (5, True), (3, False)):
            self.assertIs(is_formula(("columns", "a", (4, True), (last, False)), 0), is_right)

    def test_sheets(self):
        for sheet in [None, "a", "abcdef"] + WORDS:
            self.assert_all(("cell", sheet, (1, 1, False, False)), ("columns", sheet, (1, False), (1, False)),
                            ("range", sheet, (1, 1, False, False), (1, 1, False, False)))
        for sheet in ("", "abcdefg", "Main", "a1", "a b", "main!", 1, True, False, ("a",), ["a"], Alike()):
            self.assert_none(("cell", sheet, (1, 1, False, False)), ("columns", sheet, (1, False), (1, False)),
                             ("range", sheet, (1, 1, False, False), (1, 1, False, False)))

    def test_names(self):
        for name in ("a", "abcdef", "neg", "op", "value", "cell", "range", "gone", "name", "own", "param", "yess",
                     "su"):
            self.assert_all(("name", name), ("own", name, ()), ("own", name, (A, B, C)))
        for name in WORDS + ["", "abcdefg", "A", "aB", "a1", "a b", "a_b", "\u00e4", None, 1, True, ("a",), ["a"],
                             Alike()]:
            self.assert_none(("name", name), ("own", name, ()), ("own", name, (A,)))

    def test_parts_of_own_functions(self):
        self.assert_all(("own", "f", ()), ("own", "f", (A,)), ("own", "f", (A, B)), ("own", "f", (A, B, C)))
        self.assert_none(("own", "f", (A, B, C, A)), ("own", "f", [A]), ("own", "f", None), ("own", "f", "a"),
                         ("own", "f", A), ("own", "f", (A, (B,))))

    def test_params(self):
        for params in range(4):
            for k in range(-1, 5):
                is_right = 0 <= k < params
                self.assertIs(is_formula(("param", k), params), is_right, (k, params))
                self.assertIs(is_formula(neg(("own", "f", (A, ("param", k)))), params), is_right, (k, params))
        self.assertIs(is_formula(("param", 3), 4), False)
        for k in WHOLE_BOUNDS:
            self.assert_none(("param", k))

    def test_signs(self):
        for sign in "+-*/&=<":
            self.assert_all(("op", sign, A, B))
            self.assertIs(is_formula(("sumif", A, sign, B, C), 0), sign in "=<")
        for sign in ("", ">", "<=", "==", "=<", "+-", "+ ", "neg", None, 1, True, ("+",), ["+"], Alike()):
            self.assert_none(("op", sign, A, B), ("sumif", A, sign, B, C))

    def test_grids(self):
        for high in range(-1, 19):
            for wide in range(-1, 11):
                is_right = 1 <= high <= 16 and 1 <= wide <= 8
                self.assertIs(is_formula(("grid", high, wide, A, B), 0), is_right)
        for thing in WHOLE_BOUNDS + [ONE]:
            self.assert_none(("grid", thing, 1, A, B), ("grid", 1, thing, A, B))

    def test_spoiled_within(self):
        for around in (lambda part: neg(neg(part)), lambda part: ("own", "f", (A, part)),
                       lambda part: ("grid", 1, 1, A, part), lambda part: ("sumif", A, "=", part, B)):
            self.assert_all(around(A1), around(("own", "f", ())))
            self.assert_none(around(("cell", None, (1, 1, 0, False))), around(list(A1)), around(A1 + (1,)),
                             around(("name", "sum")), around(("param", 3)), around(number(True)),
                             around(("fault", "name")))

    def test_24_parts_and_25(self):
        self.assert_all(long_sum(12), neg(long_sum(12)))
        self.assertEqual(count_parts(neg(long_sum(12))), 24)
        self.assert_none(long_sum(13), neg(neg(long_sum(12))), op("+", long_sum(6), long_sum(7)), long_sum(100))
        calls = ("own", "f", tuple(("own", "g", (ONE,) * 3) for k in range(3)))
        self.assertEqual(count_parts(calls), 13)
        self.assert_all(calls, ("own", "h", (calls, long_sum(5), ONE)))
        self.assert_none(("own", "h", (calls, long_sum(5), neg(ONE))))

    def test_8_deep_and_9(self):
        self.assert_all(negs(7), negs(7, ("own", "f", ())), op("+", negs(6), negs(6)))
        self.assert_none(negs(8), op("+", ONE, negs(7)), ("own", "f", (A, negs(7))), ("if", A, B, negs(7)))

    def test_a_hundred_deep(self):
        self.assert_none(negs(99), negs(99, None), op("+", A, negs(98)))
        tower = ()
        for k in range(99):
            tower = ("own", "f", (tower,))
        self.assert_none(tower)

    def test_thousands_of_things(self):
        self.assert_none(long_sum(1000), ("own", "f", (A,) * 3000), ("value", ("text",) * 3000), (A,) * 3000)

    def test_what_is_handed_in_stays(self):
        things = [["gone"], [1, [2]]]
        is_formula(("own", "f", things), 3)
        is_formula(("op", things, things, things), 3)
        self.assertEqual(things, [["gone"], [1, [2]]])


class PartsTest(unittest.TestCase):
    def test_parts_of_each_kind(self):
        for formula, parts in PARTS:
            told = parts_of(formula)
            self.assertIs(type(told), list)
            self.assertEqual(told, parts)

    def test_a_list_of_its_own(self):
        for formula, parts in PARTS:
            kept = repr(formula)
            parts_of(formula).append(1)
            self.assertEqual(parts_of(formula), parts)
            self.assertEqual(repr(formula), kept)

    def test_with_the_same_parts(self):
        for formula, text in SAMPLES:
            self.assertTrue(same(with_parts(formula, parts_of(formula)), formula), text)

    def test_with_others(self):
        others = [neg(ONE), B3, TWO]
        for formula, parts in PARTS:
            given = others[:len(parts)]
            kept = repr(formula)
            told = with_parts(formula, given)
            self.assertIs(type(told), tuple)
            self.assertEqual(parts_of(told), given)
            self.assertIs(is_formula(told, 1), True)
            self.assertTrue(same(with_parts(told, parts), formula))
            self.assertEqual((given, repr(formula)), (others[:len(parts)], kept))

    def test_with_others_by_hand(self):
        self.assertEqual(with_parts(("sumif", A, "<", B, C), [ONE, TWO, A1]), ("sumif", ONE, "<", TWO, A1))
        self.assertEqual(with_parts(("grid", 2, 3, A, B), [ONE, TWO]), ("grid", 2, 3, ONE, TWO))
        self.assertEqual(with_parts(("op", "-", A, B), [B, A]), ("op", "-", B, A))
        self.assertEqual(with_parts(("own", "f", (A, B)), [B, ONE]), ("own", "f", (B, ONE)))
        self.assertEqual(with_parts(("gone",), []), ("gone",))

    def test_later_changes_of_what_was_handed_in(self):
        given = [ONE, TWO]
        told = with_parts(("own", "f", (A, B)), given)
        given.clear()
        self.assertEqual(told, ("own", "f", (ONE, TWO)))


class CountsTest(unittest.TestCase):
    def test_of_each_kind(self):
        for formula, parts in PARTS:
            self.assertEqual(count_parts(formula), 1 + len(parts))
            self.assertEqual(deepness(formula), 2 if parts else 1)

    def test_by_hand(self):
        formula = ("if", op("<", A, ("sum", AREA)), neg(neg(ONE)), ("own", "f", (ONE, ("own", "g", ()))))
        self.assertEqual(count_parts(formula), 11)
        self.assertEqual(deepness(formula), 4)

    def test_held_against_the_tuples(self):
        chance = random.Random(3)
        for k in range(300):
            formula = some_formula(chance, 5)
            inner = [(count_parts(part), deepness(part)) for part in parts_of(formula)]
            self.assertEqual(count_parts(formula), 1 + sum(one[0] for one in inner))
            self.assertEqual(deepness(formula), 1 + max([one[1] for one in inner], default=0))
            is_small = count_parts(formula) <= 24 and deepness(formula) <= 8
            self.assertIs(is_formula(formula, 3), is_small)

    def test_beyond_the_bounds(self):
        self.assertEqual(count_parts(long_sum(100)), 199)
        self.assertEqual(count_parts(negs(99)), 100)
        self.assertEqual(deepness(negs(99)), 100)
        self.assertEqual(deepness(negs(5000)), 5001)


if __name__ == "__main__":
    unittest.main()
