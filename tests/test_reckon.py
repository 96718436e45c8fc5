"""How an opened formula is reckoned [16] [17]."""

import random
import unittest

from freshsheet.openings import open_up
from freshsheet.places import read_cell
from freshsheet.reader import read_formula
from freshsheet.reckon import reckoned
from freshsheet.shapes import shape_of
from freshsheet.values import is_value
from plain import NO, NONE, YES, fault, num, one_of, plain_reckoned, some_fitting, some_value, text
from samples import negs, number, same

CELL = ("side", 3, 2)
BOOK = (("main", "side"), (), (), (), 0)
GREATEST = 10 ** 30 - 1
KIND = fault("kind", CELL)
NOUGHT = fault("nought", CELL)
GREAT = fault("great", CELL)
MISS = fault("miss", CELL)
ONE_FAULT = fault("miss", ("main", 1, 1))
OTHER_FAULT = fault("ring", ("main", 2, 2))
VALUES = [NONE, num(0), num(1), num(-3), num(5, 2), num(-5, 2), num(GREATEST), num(1, GREATEST), text(""), text("a"),
          text("b"), text("1"), text("z" * 20), YES, NO, ONE_FAULT, OTHER_FAULT]


def refuse(value):
    """An outer function that may not be asked."""
    raise AssertionError(value)


def lookup(shown):
    """A function that tells what a cell of the sheet main shows: shown has the values of cells by their texts."""
    by_cell = {read_cell("main!" + cell): value for cell, value in shown.items()}
    return lambda cell: by_cell[cell]


def opened(formula_text):
    return open_up(BOOK, "main", read_formula(formula_text))


def grid_of(*rows):
    """A table of lists of values."""
    return tuple(tuple(row) for row in rows)


class ReckonTest(unittest.TestCase):
    def table(self, formula_text, shown=None, outer=refuse):
        """The table of a formula's text, checked in its form."""
        tree = opened(formula_text)
        told = reckoned(tree, CELL, lookup(shown or {}), outer)
        self.assertEqual((len(told), len(told[0])), shape_of(tree))
        self.assertTrue(all(type(row) is tuple and len(row) == len(told[0]) for row in told))
        self.assertTrue(type(told) is tuple and all(is_value(value) for row in told for value in row), told)
        return told

    def assert_table(self, formula_text, wanted, shown=None, outer=refuse):
        told = self.table(formula_text, shown, outer)
        self.assertTrue(same(told, wanted), (formula_text, shown, told, wanted))

    def assert_value(self, formula_text, wanted, *values):
        """Checks what a formula makes of values in the cells A1, B1, C1 and so on."""
        self.assert_table(formula_text, one_of(wanted), {f"{'ABCDEFGH'[k]}1": value for k, value in enumerate(values)})

    def test_leaves(self):
        self.assert_value("7", num(7))
        self.assert_value('"a b"', text("a b"))
        self.assert_value("yes", YES)
        self.assert_value("no", NO)
        for value in VALUES:
            self.assert_value("A1", value, value)

    def test_ranges(self):
        shown = {"A1": num(1), "B1": NONE, "A2": text("a"), "B2": ONE_FAULT}
        self.assert_table("A1:B2", grid_of([num(1), NONE], [text("a"), ONE_FAULT]), shown)
        self.assert_table("A1:B1", grid_of([num(1), NONE]), shown)
        self.assert_table("B1:B2", grid_of([NONE], [ONE_FAULT]), shown)
        self.assert_table("B2:B2", one_of(ONE_FAULT), shown)

    def test_cells_of_other_sheets(self):
        shown = {("main", 1, 1): num(5), ("side", 2, 2): num(70), ("side", 1, 1): num(6), ("main", 2, 2): num(80)}
        self.assertEqual(reckoned(opened("A1+side!B2"), CELL, shown.get, refuse), one_of(num(75)))

    def test_whole_columns(self):
        told = reckoned(opened("side!B:C"), CELL, lambda cell: num(cell[1] * 10 + cell[2]), refuse)
        self.assertEqual(told, tuple((num(10 * row + 2), num(10 * row + 3)) for row in range(1, 17)))

    def test_fault_leaves(self):
        for formula_text, word in (("#", "gone"), ("lost", "name"), ("lost(1)", "name"), ("none!A1:B2", "gone")):
            self.assert_value(formula_text, fault(word, CELL))
        cell = ("main", 16, 1)
        self.assertEqual(reckoned(("fault", "great"), cell, refuse, refuse), one_of(("fault", "great", cell)))

    def test_sums_and_differences(self):
        self.assert_value("1+2", num(3))
        self.assert_value("A1+B1", num(1, 6), num(1, 2), num(-1, 3))
        self.assert_value("A1-B1", num(5, 6), num(1, 2), num(-1, 3))
        self.assert_value("A1-B1", num(0), num(7, 3), num(7, 3))
        self.assert_value("A1+B1", num(0), NONE, NONE)
        self.assert_value("A1+B1", num(5), NONE, num(5))
        self.assert_value("A1-B1", num(-5), NONE, num(5))
        self.assert_value("A1-B1", num(5), num(5), NONE)

    def test_products_and_quotients(self):
        self.assert_value("A1*B1", num(-5, 2), num(5), num(-1, 2))
        self.assert_value("A1*B1", num(0), NONE, num(5))
        self.assert_value("A1/B1", num(-1, 2), num(3), num(-6))
        self.assert_value("A1/B1", num(0), NONE, num(-6))
        self.assert_value("4/6", num(2, 3))

    def test_over_nought(self):
        for left in (num(5), num(0), NONE, num(-1, 3)):
            for right in (num(0), NONE):
                self.assert_value("A1/B1", NOUGHT, left, right)
        self.assert_value("A1/B1", KIND, text("a"), num(0))
        self.assert_value("A1/B1", KIND, YES, NONE)
        self.assert_value("A1/B1", ONE_FAULT, ONE_FAULT, num(0))

    def test_other_kinds(self):
        for sign in "+-*/":
            for other in (text("a"), text(""), text("1"), YES, NO):
                for value in (num(1), NONE, text("a"), YES):
                    self.assert_value(f"A1{sign}B1", KIND, other, value)
                    self.assert_value(f"A1{sign}B1", KIND, value, other)

    def test_more_than_thirty_figures(self):
        self.assert_value("A1+B1", num(GREATEST), num(GREATEST - 1), num(1))
        self.assert_value("A1+B1", GREAT, num(GREATEST), num(1))
        self.assert_value("A1-B1", num(-GREATEST), num(-GREATEST), num(0))
        self.assert_value("A1-B1", GREAT, num(-GREATEST), num(1))
        self.assert_value("A1*B1", num(10 ** 29), num(10 ** 15), num(10 ** 14))
        self.assert_value("A1*B1", GREAT, num(10 ** 15), num(10 ** 15))
        self.assert_value("A1*B1", GREAT, num(-10 ** 15), num(10 ** 15))
        self.assert_value("A1/B1", num(1, 10 ** 29), num(1, 10 ** 15), num(10 ** 14))
        self.assert_value("A1/B1", GREAT, num(1, 10 ** 15), num(10 ** 15))
        self.assert_value("A1*B1", GREAT, num(1, 10 ** 15), num(1, 10 ** 15))
        self.assert_value("A1+B1", GREAT, num(1, 10 ** 29), num(1, 10 ** 29 + 1))
        self.assert_value("A1*B1", num(1), num(1, GREATEST), num(GREATEST))
        self.assert_value("A1/B1", num(1), num(GREATEST), num(GREATEST))
        self.assert_value("A1-B1", num(0), num(1, GREATEST), num(1, GREATEST))
        self.assert_value("A1/B1", num(-1, GREATEST), num(-1), num(GREATEST))

    def test_texts_put_together(self):
        self.assert_value("A1&B1", text("ab"), text("a"), text("b"))
        self.assert_value("A1&B1", text("a"), text("a"), NONE)
        self.assert_value("A1&B1", text(""), NONE, NONE)
        self.assert_value("A1&B1", text("12"), num(1), num(2))
        self.assert_value("A1&B1", text("a0"), text("a"), num(0))
        self.assert_value("A1&B1", text("yesno"), YES, NO)
        self.assert_value("A1&B1", text("no b"), NO, text(" b"))
        self.assert_value("A1&B1&C1", text("a1yes"), text("a"), num(1), YES)

    def test_texts_that_are_none(self):
        self.assert_value("A1&B1", text("a" * 20), text("a" * 19), text("a"))
        self.assert_value("A1&B1", text("a" * 20), text("a" * 20), NONE)
        self.assert_value("A1&B1", KIND, text("a" * 20), text("a"))
        self.assert_value("A1&B1", KIND, text("a" * 18), YES)
        self.assert_value("A1&B1", text("a" * 18 + "no"), text("a" * 18), NO)
        self.assert_value("A1&B1", text("9" * 20), num(int("9" * 19)), num(9))
        self.assert_value("A1&B1", KIND, num(10 ** 20), NONE)
        for value in (num(-1), num(1, 2), num(-1, 2)):
            self.assert_value("A1&B1", KIND, value, text("a"))
            self.assert_value("A1&B1", KIND, text("a"), value)
            self.assert_value("A1&B1", KIND, NONE, value)

    def test_the_same_value(self):
        for k, one in enumerate(VALUES[:-2]):
            for j, other in enumerate(VALUES[:-2]):
                self.assert_value("A1=B1", YES if k == j else NO, one, other)
        self.assert_value("A1=B1", NO, NONE, num(0))
        self.assert_value("A1=B1", NO, NONE, text(""))
        self.assert_value("A1=B1", NO, num(1), text("1"))
        self.assert_value("A1=B1", NO, num(1), YES)
        self.assert_value("A1=B1", NO, num(0), NO)
        self.assert_value("2/4=1/2", YES)

    def test_less(self):
        self.assert_value("A1<B1", YES, num(1, 3), num(1, 2))
        self.assert_value("A1<B1", NO, num(1, 2), num(1, 3))
        self.assert_value("A1<B1", NO, num(1, 2), num(1, 2))
        self.assert_value("A1<B1", YES, num(-5), num(-4))
        self.assert_value("A1<B1", YES, NONE, num(1, GREATEST))
        self.assert_value("A1<B1", YES, num(-1), NONE)
        self.assert_value("A1<B1", NO, NONE, NONE)
        self.assert_value("A1<B1", NO, NONE, num(0))
        self.assert_value("A1<B1", NO, num(GREATEST), num(GREATEST))
        self.assert_value("9<10", YES)

    def test_less_of_texts(self):
        rising = [text(signs) for signs in ("", " ", " a", "0", "10", "9", "9a", "a", "a ", "aa", "ab", "b", "z" * 20)]
        for k, one in enumerate(rising):
            for j, other in enumerate(rising):
                self.assert_value("A1<B1", YES if k < j else NO, one, other)

    def test_less_of_other_kinds(self):
        for one, other in ((num(1), text("a")), (text("a"), num(1)), (NONE, text("a")), (text("a"), NONE), (YES, NO),
                           (NO, YES), (YES, num(1)), (NONE, YES), (text("a"), YES), (text(""), NONE), (NO, NO)):
            self.assert_value("A1<B1", KIND, one, other)

    def test_faults_come_the_left_one_first(self):
        for sign in "+-*/&=<":
            self.assert_value(f"A1{sign}B1", ONE_FAULT, ONE_FAULT, OTHER_FAULT)
            self.assert_value(f"A1{sign}B1", OTHER_FAULT, OTHER_FAULT, ONE_FAULT)
            self.assert_value(f"A1{sign}B1", ONE_FAULT, ONE_FAULT, ONE_FAULT)
            for value in VALUES[:-2]:
                self.assert_value(f"A1{sign}B1", ONE_FAULT, ONE_FAULT, value)
                self.assert_value(f"A1{sign}B1", ONE_FAULT, value, ONE_FAULT)
            self.assert_value(f"A1{sign}#", ONE_FAULT, ONE_FAULT)
            self.assert_value(f"#{sign}A1", fault("gone", CELL), ONE_FAULT)

    def test_place_by_place(self):
        shown = {"A1": num(1), "B1": num(2), "A2": text("a"), "B2": NONE, "C1": num(10), "D1": ONE_FAULT, "C2": num(30),
                 "D2": num(0)}
        self.assert_table("A1:B2+C1:D2", grid_of([num(11), ONE_FAULT], [KIND, num(0)]), shown)
        self.assert_table("C1:D2/A1:B2", grid_of([num(10), ONE_FAULT], [KIND, NOUGHT]), shown)
        self.assert_table("A1:B2&C1:D2", grid_of([text("110"), ONE_FAULT], [text("a30"), text("0")]), shown)
        self.assert_table("A1:B2<C1:D2", grid_of([YES, ONE_FAULT], [KIND, NO]), shown)
        self.assert_table("A1:B2=A1:B2", grid_of([YES, YES], [YES, YES]), shown)
        self.assert_table("A1:B2=C1:D2", grid_of([NO, ONE_FAULT], [NO, NO]), shown)

    def test_a_single_value_for_each_place(self):
        shown = {"A1": num(1), "B1": num(2), "C1": ONE_FAULT, "A2": text("a"), "B2": NONE, "C2": YES, "D1": OTHER_FAULT}
        self.assert_table("A1:C2-5", grid_of([num(-4), num(-3), ONE_FAULT], [KIND, num(-5), KIND]), shown)
        self.assert_table("5-A1:C2", grid_of([num(4), num(3), ONE_FAULT], [KIND, num(5), KIND]), shown)
        self.assert_table("A1:C2&B1:B1", grid_of([text("12"), text("22"), ONE_FAULT],
                                                 [text("a2"), text("2"), text("yes2")]), shown)
        self.assert_table("D1&A1:C2", grid_of([OTHER_FAULT] * 3, [OTHER_FAULT] * 3), shown)
        self.assert_table("A1:C1&D1", grid_of([OTHER_FAULT, OTHER_FAULT, ONE_FAULT]), shown)
        self.assert_table("A1:A2<2", grid_of([YES], [KIND]), shown)

    def test_neg(self):
        self.assert_value("-A1", num(-5, 2), num(5, 2))
        self.assert_value("-A1", num(5), num(-5))
        self.assert_value("-A1", num(0), num(0))
        self.assert_value("-A1", num(0), NONE)
        self.assert_value("-A1", num(-GREATEST), num(GREATEST))
        self.assert_value("-A1", ONE_FAULT, ONE_FAULT)
        for value in (text("a"), text(""), YES, NO):
            self.assert_value("-A1", KIND, value)
        self.assert_table("-A1:B2", grid_of([num(-1), num(0)], [KIND, ONE_FAULT]),
                          {"A1": num(1), "B1": NONE, "A2": YES, "B2": ONE_FAULT})

    def test_if(self):
        self.assert_value("if(A1;B1;C1)", text("a"), YES, text("a"), num(2))
        self.assert_value("if(A1;B1;C1)", num(2), NO, text("a"), num(2))
        self.assert_value("if(A1;B1;C1)", num(2), NONE, text("a"), num(2))
        self.assert_value("if(A1;B1;C1)", ONE_FAULT, ONE_FAULT, text("a"), OTHER_FAULT)
        self.assert_value("if(A1;B1;C1)", NONE, YES, NONE, OTHER_FAULT)
        self.assert_value("if(A1;B1;C1)", OTHER_FAULT, NO, NONE, OTHER_FAULT)
        for condition in (num(0), num(1), text(""), text("yes"), text("no")):
            self.assert_value("if(A1;B1;C1)", KIND, condition, num(1), num(2))
            self.assert_value("if(A1;B1;C1)", KIND, condition, ONE_FAULT, OTHER_FAULT)

    def test_if_with_tables(self):
        shown = {"A1": num(1), "B1": num(2), "A2": NONE, "B2": ONE_FAULT, "C1": YES, "D1": NO, "C2": text("x"),
                 "D2": NONE, "E1": OTHER_FAULT}
        one = grid_of([num(1), num(2)], [NONE, ONE_FAULT])
        self.assert_table("if(C1;A1:B2;C1:D2)", one, shown)
        self.assert_table("if(C1;C1:D2;A1:B2)", grid_of([YES, NO], [text("x"), NONE]), shown)
        for condition in ("D1", "D2", "1<0"):
            self.assert_table(f"if({condition};C1:D2;A1:B2)", one, shown)
            self.assert_table(f"if({condition};A1:B2;7)", grid_of([num(7)] * 2, [num(7)] * 2), shown)
            self.assert_table(f"if({condition};7;A1:B2)", one, shown)
        self.assert_table("if(C1;A1:B2;7)", one, shown)
        self.assert_table("if(C1;7;A1:B2)", grid_of([num(7)] * 2, [num(7)] * 2), shown)
        self.assert_table("if(C1;B2;A1:B1)", grid_of([ONE_FAULT] * 2), shown)
        self.assert_table("if(E1;A1:B2;7)", grid_of([OTHER_FAULT] * 2, [OTHER_FAULT] * 2), shown)
        self.assert_table("if(E1;7;A1:B1)", grid_of([OTHER_FAULT] * 2), shown)
        self.assert_table("if(C2;A1:B2;C1:D2)", grid_of([KIND] * 2, [KIND] * 2), shown)
        self.assert_table("if(A1;B2;A1:A2)", grid_of([KIND], [KIND]), shown)

    def test_both_parts_of_an_if_are_reckoned(self):
        asked = []
        self.assert_table("if(yes;outer(1);outer(2))", one_of(num(1)), None, lambda value: asked.append(value) or value)
        self.assertEqual(sorted(asked), [num(1), num(2)])

    def test_sum_count_least_most(self):
        shown = {"A1": num(3), "B1": NONE, "C1": num(1, 2), "A2": text("a"), "B2": YES, "C2": num(-2)}
        self.assert_table("sum(A1:C2)", one_of(num(3, 2)), shown)
        self.assert_table("count(A1:C2)", one_of(num(3)), shown)
        self.assert_table("least(A1:C2)", one_of(num(-2)), shown)
        self.assert_table("most(A1:C2)", one_of(num(3)), shown)
        self.assert_table("sum(B1:B2)", one_of(num(0)), shown)
        self.assert_table("count(B1:B2)", one_of(num(0)), shown)
        self.assert_table("least(B1:B2)", one_of(NONE), shown)
        self.assert_table("most(B1:B2)", one_of(NONE), shown)
        self.assert_table("sum(A1:C2*2)", one_of(KIND), shown)
        self.assert_table("sum(A1:C1*2)", one_of(num(7)), shown)

    def test_the_first_fault_of_a_table(self):
        shown = {"A1": num(3), "B1": OTHER_FAULT, "A2": ONE_FAULT, "B2": num(1)}
        for word in ("sum", "count", "least", "most"):
            self.assert_table(f"{word}(A1:B2)", one_of(OTHER_FAULT), shown)
            self.assert_table(f"{word}(turn(A1:B2))", one_of(ONE_FAULT), shown)
            self.assert_table(f"{word}(A2:B2)", one_of(ONE_FAULT), shown)
            self.assert_table(f"{word}(#)", one_of(fault("gone", CELL)), shown)

    def test_a_great_sum(self):
        shown = {"A1": num(GREATEST), "B1": num(1), "A2": num(-1), "B2": num(1, 3)}
        self.assert_table("sum(A1:B1)", one_of(GREAT), shown)
        self.assert_table("sum(turn(stack(A1:B1;A2:B2)))", one_of(GREAT), shown)
        self.assert_table("sum(stack(A1;stack(B1;A2)))", one_of(num(GREATEST)), shown)

    def test_sumif(self):
        shown = {"A1": num(1), "A2": num(2), "A3": NONE, "A4": text("a"), "A5": ONE_FAULT, "B1": num(10), "B2": num(20),
                 "B3": num(40), "B4": num(80), "B5": num(160), "C1": num(2), "C2": text("a"), "C3": NONE, "C4": YES,
                 "C5": OTHER_FAULT}
        self.assert_table("sumif(A1:A5;=;2;B1:B5)", one_of(num(20)), shown)
        self.assert_table("sumif(A1:A5;<;2;B1:B5)", one_of(num(50)), shown)
        self.assert_table('sumif(A1:A5;=;"a";B1:B5)', one_of(num(80)), shown)
        self.assert_table('sumif(A1:A5;<;"b";B1:B5)', one_of(num(80)), shown)
        self.assert_table("sumif(A1:A5;=;C3;B1:B5)", one_of(num(40)), shown)
        self.assert_table("sumif(A1:A5;=;C4;B1:B5)", one_of(num(0)), shown)
        self.assert_table("sumif(A1:A5;<;C4;B1:B5)", one_of(num(0)), shown)
        self.assert_table("sumif(A1:A5;=;C5;B1:B5)", one_of(OTHER_FAULT), shown)
        self.assert_table("sumif(A1:A5;<;C5;B1:B5)", one_of(OTHER_FAULT), shown)
        self.assert_table("sumif(A1:A5;<;3;C1:C5)", one_of(num(2)), shown)
        self.assert_table("sumif(B1:B5;<;500;C1:C5)", one_of(OTHER_FAULT), shown)
        self.assert_table("sumif(2;=;C1;3)", one_of(num(3)), shown)
        self.assert_table("sumif(3;=;C1;3)", one_of(num(0)), shown)

    def test_find(self):
        shown = {"A1": num(1), "B1": text("one"), "A2": text("b"), "B2": ONE_FAULT, "A3": num(1), "B3": YES, "A4": NONE,
                 "B4": num(4), "C1": OTHER_FAULT, "D1": NONE, "E1": text("b")}
        self.assert_table("find(1;A1:B4;2)", one_of(text("one")), shown)
        self.assert_table("find(1;A1:B4;1)", one_of(num(1)), shown)
        self.assert_table("find(1;A2:B4;2)", one_of(YES), shown)
        self.assert_table("find(E1;A1:B4;2)", one_of(ONE_FAULT), shown)
        self.assert_table("find(D1;A1:B4;2)", one_of(num(4)), shown)
        self.assert_table("find(yes;A1:B4;2)", one_of(MISS), shown)
        self.assert_table("find(yes;B1:B4;1)", one_of(YES), shown)
        self.assert_table("find(1;A1:B4;3)", one_of(KIND), shown)
        self.assert_table("find(C1;A1:B4;#)", one_of(OTHER_FAULT), shown)
        self.assert_table("find(7;A1:B4;C1)", one_of(OTHER_FAULT), shown)
        self.assert_table("find(7;A1:B4;0)", one_of(KIND), shown)

    def test_turn(self):
        shown = {"A1": num(1), "B1": num(2), "C1": num(3), "A2": NONE, "B2": ONE_FAULT, "C2": YES}
        self.assert_table("turn(A1:C2)", grid_of([num(1), NONE], [num(2), ONE_FAULT], [num(3), YES]), shown)
        self.assert_table("turn(A1:C1)", grid_of([num(1)], [num(2)], [num(3)]), shown)
        self.assert_table("turn(turn(A1:C2))", grid_of([num(1), num(2), num(3)], [NONE, ONE_FAULT, YES]), shown)
        self.assert_table("turn(A1)", one_of(num(1)), shown)

    def test_stack(self):
        shown = {"A1": num(1), "B1": num(2), "A2": NONE, "B2": ONE_FAULT}
        self.assert_table("stack(A1:B1;A1:B2)", grid_of([num(1), num(2)], [num(1), num(2)], [NONE, ONE_FAULT]), shown)
        self.assert_table("stack(A1:B2;A1:B1)", grid_of([num(1), num(2)], [NONE, ONE_FAULT], [num(1), num(2)]), shown)
        self.assert_table("stack(1;stack(#;3))", grid_of([num(1)], [fault("gone", CELL)], [num(3)]))

    def test_grid(self):
        self.assert_table("grid(2;3;10;2)", grid_of([num(10), num(12), num(14)], [num(16), num(18), num(20)]))
        self.assert_table("grid(3;2;10;2)", grid_of([num(10), num(12)], [num(14), num(16)], [num(18), num(20)]))
        self.assert_table("grid(1;1;10;2)", one_of(num(10)))
        self.assert_table("grid(2;2;A1;B1)", grid_of([num(1, 2), num(1, 6)], [num(-1, 6), num(-1, 2)]),
                          {"A1": num(1, 2), "B1": num(-1, 3)})
        self.assert_table("grid(1;2;A1;3)", grid_of([num(0), num(3)]), {"A1": NONE})
        self.assert_table("grid(1;2;4;A1)", grid_of([num(4), num(4)]), {"A1": NONE})
        told = self.table("grid(16;8;0;1)")
        self.assertEqual([value for row in told for value in row], [num(k) for k in range(128)])

    def test_grid_with_faults(self):
        shown = {"A1": ONE_FAULT, "B1": OTHER_FAULT, "C1": text("a"), "D1": num(GREATEST), "E1": num(10 ** 29)}
        self.assert_table("grid(1;2;A1;B1)", grid_of([ONE_FAULT] * 2), shown)
        self.assert_table("grid(1;2;1;B1)", grid_of([OTHER_FAULT] * 2), shown)
        self.assert_table("grid(1;2;A1;C1)", grid_of([ONE_FAULT] * 2), shown)
        self.assert_table("grid(1;2;C1;B1)", grid_of([OTHER_FAULT] * 2), shown)
        self.assert_table("grid(1;2;C1;1)", grid_of([KIND] * 2), shown)
        self.assert_table("grid(1;2;1;C1)", grid_of([KIND] * 2), shown)
        self.assert_table("grid(2;2;D1;1)", grid_of([num(GREATEST), GREAT], [GREAT, GREAT]), shown)
        self.assert_table("grid(1;3;0;D1)", grid_of([num(0), num(GREATEST), GREAT]), shown)
        # The step by itself is too great at the tenth place, though the sum wouldn't be.
        told = self.table("grid(2;8;-E1;E1)", shown)[1]
        self.assertEqual(told[:3], (num(7 * 10 ** 29), num(8 * 10 ** 29), GREAT))

    def test_outer(self):
        def outer(value):
            asked.append(value)
            return {"number": text("n"), "text": YES, "truth": num(7), "none": NO}[value[0]]

        for value, wanted in ((num(5), text("n")), (text("a"), YES), (YES, num(7)), (NONE, NO)):
            asked = []
            self.assert_table("outer(A1)", one_of(wanted), {"A1": value}, outer)
            self.assertEqual(asked, [value])
        asked = []
        self.assert_table("outer(outer(1))&outer(A1:A1)", one_of(text("yesn")), {"A1": num(2)}, outer)
        self.assertEqual(asked, [num(1), text("n"), num(2)])

    def test_the_outer_function_is_not_asked_of_a_fault(self):
        self.assert_value("outer(A1)", ONE_FAULT, ONE_FAULT)
        self.assert_value("outer(#)", fault("gone", CELL))
        self.assert_value("outer(1/0)", NOUGHT)
        self.assert_value("outer(outer(A1))+1", ONE_FAULT, ONE_FAULT)

    def test_made_faults_have_the_cell_for_which_is_reckoned(self):
        for cell in (("main", 1, 1), ("side", 16, 8)):
            for formula_text, word in (("1/0", "nought"), ("-yes", "kind"), ('1<"a"', "kind"), ("#", "gone"),
                                       ("find(1;2;1)", "miss"), ("find(1;1;2)", "kind"), ("if(1;2;3)", "kind"),
                                       ("999999999*999999999*999999999*999999999", "great"), ("lost", "name"),
                                       ("grid(1;1;no;2)", "kind"), ('"abcdefghijk"&"abcdefghijk"', "kind"),
                                       ("sumif(1;<;#;3)", "gone"), ("sum(1/0)", "nought")):
                self.assertEqual(reckoned(opened(formula_text), cell, refuse, refuse), one_of(("fault", word, cell)))

    def test_great_depths(self):
        self.assertEqual(reckoned(negs(199, number(5)), CELL, refuse, refuse), one_of(num(-5)))
        tree = ("range", "main", (1, 1, False, False), (2, 3, False, False))
        for k in range(199):
            tree = ("turn", tree)
        told = reckoned(tree, CELL, lambda cell: num(cell[1] * 10 + cell[2]), refuse)
        self.assertEqual(told, grid_of(*[[num(11 + k), num(21 + k)] for k in range(3)]))

    def test_great_tables(self):
        column = ("range", "main", (1, 1, False, False), (16, 8, False, False))
        tree = column
        for k in range(90):
            tree = ("stack", tree, column)
        told = reckoned(("sum", ("op", "+", ("turn", tree), number(1))), CELL, lambda cell: num(2), refuse)
        self.assertEqual(told, one_of(num(91 * 128 * 3)))

    def test_the_cells_that_are_asked_for(self):
        asked = []
        tree = opened("if(yes;A1:B2;1)+sum(side!C3:C4)+find(1;D4;1)*#")
        reckoned(tree, CELL, lambda cell: asked.append(cell) or num(1), refuse)
        self.assertEqual(sorted(set(asked)), [("main", 1, 1), ("main", 1, 2), ("main", 2, 1), ("main", 2, 2),
                                              ("main", 4, 4), ("side", 3, 3), ("side", 4, 3)])

    def test_all_pairs_of_values(self):
        for sign in "+-*/&=<":
            tree = opened(f"A1{sign}B1")
            for one in VALUES:
                for other in VALUES:
                    shows = lookup({"A1": one, "B1": other})
                    wanted = plain_reckoned(tree, CELL, shows, refuse)
                    self.assertTrue(same(reckoned(tree, CELL, shows, refuse), wanted), (sign, one, other))

    def test_formulas_made_by_chance(self):
        chance = random.Random(17)
        seen = {}
        for k in range(4000):
            shape = chance.choice([(1, 1), (1, 1), (2, 1), (1, 3), (2, 2), (4, 3)])
            tree = some_fitting(chance, shape, chance.randint(1, 5), ["main", "side"], [("fault", "name")])
            known = {}

            def shows(cell):
                return known.setdefault(cell, some_value(chance))

            def outer(value):
                return {"number": text("n"), "text": num(5), "truth": value, "none": YES}[value[0]]

            told = reckoned(tree, CELL, shows, outer)
            self.assertTrue(same(told, plain_reckoned(tree, CELL, shows, outer)), tree)
            self.assertTrue(all(is_value(value) for row in told for value in row))
            for value in told[0]:
                word = value[1] if value[0] == "fault" else value[0]
                seen[word] = seen.get(word, 0) + 1
        self.assertGreater(min(seen[word] for word in ("none", "number", "text", "truth", "kind", "miss", "name")), 100)


if __name__ == "__main__":
    unittest.main()
