"""How a formula is opened [13]."""

import random
import unittest

from freshsheet.formulas import count_parts, deepness, is_formula, parts_of, with_parts
from freshsheet.openings import open_up
from freshsheet.reader import read_formula
from samples import A, A1, AREA, B, LEAVES, ONE, TWO, long_sum, neg, negs, number, op, same, some_formula

GONE = ("fault", "gone")
NAME = ("fault", "name")
GREAT = ("fault", "great")
P0 = ("param", 0)
P1 = ("param", 1)
P2 = ("param", 2)
CALLED = ("a", "b", "c", "d", "lost")
# 24 parts, as many as a formula may have.
FULL = neg(long_sum(12))


def book(names=None, owns=None, sheets=("main", "side")):
    """A book without cells; names a dict of formulas, owns a dict of pairs of a count and a formula."""
    return (tuple(sheets), (), tuple(sorted((names or {}).items())),
            tuple(sorted((name,) + pair for name, pair in (owns or {}).items())), 0)


def own(name, *parts):
    return ("own", name, parts)


def cell(row, column, sheet=None):
    return ("cell", sheet, (row, column, False, False))


def sum_of_all(parts):
    """A sum of parts, as flat as it goes."""
    if len(parts) == 1:
        return parts[0]
    half = len(parts) // 2
    return op("+", sum_of_all(parts[:half]), sum_of_all(parts[half:]))


def busy(chance, formula, params, counts):
    """A formula with many of its leaves made names, own functions and params, own functions mostly called rightly."""
    parts = [busy(chance, part, params, counts) for part in parts_of(formula)]
    if formula[0] == "own":
        count = counts.get(formula[1], 1)
        filled = (parts + [A, B, P0 if params else A])[:count]
        return own(formula[1], *(filled if chance.random() < 0.9 else parts))
    if parts:
        return with_parts(formula, parts)
    leaves = [formula, ("name", chance.choice(CALLED)), own(chance.choice(CALLED[:4]), *parts)]
    if params:
        leaves.append(("param", chance.randrange(params)))
    return chance.choice(leaves)


def some_busy(chance, params, counts, sheets=("main", "side", "none")):
    formula = some_formula(chance, chance.choice([2, 3, 4, 6]), params, sheets, CALLED)
    return busy(chance, formula, params, counts)


class TooLong(Exception):
    pass


class PlainOpener:
    """Opens formulas word by word as the document tells it, all parts ahead, great or not."""

    def __init__(self, of_book, sheet):
        self.sheets = of_book[0]
        self.sheet = sheet
        self.names = dict(of_book[2])
        self.owns = {name: (count, formula) for name, count, formula in of_book[3]}
        self.steps = 0

    def reference(self, formula):
        sheet = formula[1] or self.sheet
        if sheet not in self.sheets:
            return GONE
        if formula[0] == "columns":
            (first, first_stands), (last, last_stands) = formula[2:]
            return ("range", sheet, (1, first, True, first_stands), (16, last, True, last_stands))
        return (formula[0], sheet) + formula[2:]

    def opened(self, formula, within, given):
        self.steps += 1
        if self.steps > 3000:
            raise TooLong
        kind = formula[0]
        if kind in ("cell", "range", "columns"):
            return self.reference(formula)
        if kind == "gone":
            return GONE
        if kind == "param":
            return given[formula[1]]
        if kind == "name":
            if formula[1] not in self.names or ("name", formula[1]) in within:
                return NAME
            return self.opened(self.names[formula[1]], within | {("name", formula[1])}, None)
        parts = [self.opened(part, within, given) for part in parts_of(formula)]
        if kind == "own":
            count, inner = self.owns.get(formula[1], (None, None))
            if count != len(parts) or ("own", formula[1]) in within:
                return NAME
            return self.opened(inner, within | {("own", formula[1])}, parts)
        return with_parts(formula, parts)

    def whole(self, formula):
        told = self.opened(formula, frozenset(), None)
        return GREAT if count_parts(told) > 200 else told


class OpenUpTest(unittest.TestCase):
    def assert_opened(self, of_book, formula, wanted, sheet="main"):
        told = open_up(of_book, sheet, formula)
        self.assertTrue(same(told, wanted), (formula, told, wanted))

    def test_leaves_that_stay(self):
        for formula, text in LEAVES:
            if formula[0] == "value":
                self.assert_opened(book(), formula, formula)

    def test_gone(self):
        self.assert_opened(book(), ("gone",), GONE)

    def test_cells(self):
        corner = (3, 2, True, False)
        self.assert_opened(book(), ("cell", None, corner), ("cell", "main", corner))
        self.assert_opened(book(), ("cell", None, corner), ("cell", "side", corner), "side")
        self.assert_opened(book(), ("cell", "side", corner), ("cell", "side", corner))
        self.assert_opened(book(), ("cell", "none", corner), GONE)
        self.assert_opened(book(sheets=("sum",)), ("cell", "sum", corner), ("cell", "sum", corner), "sum")

    def test_ranges(self):
        corners = ((3, 2, True, False), (4, 2, False, True))
        self.assert_opened(book(), ("range", None) + corners, ("range", "main") + corners)
        self.assert_opened(book(), ("range", "side") + corners, ("range", "side") + corners)
        self.assert_opened(book(), ("range", "none") + corners, GONE)

    def test_columns(self):
        self.assert_opened(book(), ("columns", None, (2, False), (3, True)),
                           ("range", "main", (1, 2, True, False), (16, 3, True, True)))
        self.assert_opened(book(), ("columns", "side", (8, True), (8, False)),
                           ("range", "side", (1, 8, True, True), (16, 8, True, False)))
        self.assert_opened(book(), ("columns", "none", (2, False), (3, True)), GONE)

    def test_a_sheet_of_the_formula_that_is_not_there(self):
        self.assert_opened(book(), cell(1, 1), GONE, "none")
        self.assert_opened(book(), cell(1, 1, "main"), cell(1, 1, "main"), "none")

    def test_each_kind_with_its_parts_opened(self):
        opened = cell(1, 1, "main")
        for around in (neg, lambda part: op("-", part, ONE), lambda part: op("&", ONE, part),
                       lambda part: ("if", ONE, part, TWO), lambda part: ("sum", part), lambda part: ("count", part),
                       lambda part: ("least", part), lambda part: ("most", part), lambda part: ("turn", part),
                       lambda part: ("sumif", part, "<", ONE, part), lambda part: ("find", ONE, TWO, part),
                       lambda part: ("stack", ONE, part), lambda part: ("grid", 2, 3, part, ONE),
                       lambda part: ("outer", part)):
            self.assert_opened(book(), around(A1), around(opened))
            self.assert_opened(book(), around(neg(A1)), around(neg(opened)))
            self.assert_opened(book(), around(("gone",)), around(GONE))
            self.assert_opened(book({"a": A1}), around(A), around(opened))
            self.assert_opened(book(owns={"f": (1, around(P0))}), own("f", A1), around(opened))

    def test_names(self):
        there = book({"a": op("+", B, ONE), "b": cell(2, 2, "side"), "c": ("columns", "side", (1, True), (2, False))})
        self.assert_opened(there, B, cell(2, 2, "side"))
        self.assert_opened(there, A, op("+", cell(2, 2, "side"), ONE))
        self.assert_opened(there, op("*", A, B), op("*", op("+", cell(2, 2, "side"), ONE), cell(2, 2, "side")))
        self.assert_opened(there, ("sum", ("name", "c")),
                           ("sum", ("range", "side", (1, 1, True, True), (16, 2, True, False))))
        self.assert_opened(book({"a": cell(1, 1, "none")}), A, GONE)

    def test_names_that_are_not_there(self):
        self.assert_opened(book(), A, NAME)
        self.assert_opened(book({"b": ONE}), op("+", A, B), op("+", NAME, ONE))
        self.assert_opened(book({"a": neg(B)}), A, neg(NAME))
        self.assert_opened(book(owns={"a": (0, ONE)}), A, NAME)

    def test_names_within_themselves(self):
        self.assert_opened(book({"a": A}), A, NAME)
        self.assert_opened(book({"a": op("+", A, ONE)}), A, op("+", NAME, ONE))
        self.assert_opened(book({"a": neg(B), "b": ("sum", A)}), A, neg(("sum", NAME)))
        self.assert_opened(book({"a": neg(B), "b": ("sum", A)}), B, ("sum", neg(NAME)))
        self.assert_opened(book({"a": B, "b": ("name", "c"), "c": neg(A)}), op("+", A, B),
                           op("+", neg(NAME), neg(NAME)))
        self.assert_opened(book({"a": op("+", B, B), "b": ONE}), op("+", A, A),
                           op("+", op("+", ONE, ONE), op("+", ONE, ONE)))

    def test_own_functions(self):
        there = book(owns={"zero": (0, number(0)), "twice": (1, op("+", P0, P0)), "less": (2, op("-", P0, P1)),
                           "back": (2, own("less", P1, P0)), "pick": (3, ("if", P2, P0, P1))})
        self.assert_opened(there, own("zero"), number(0))
        self.assert_opened(there, own("twice", ONE), op("+", ONE, ONE))
        self.assert_opened(there, own("twice", A1), op("+", cell(1, 1, "main"), cell(1, 1, "main")))
        self.assert_opened(there, own("less", ONE, TWO), op("-", ONE, TWO))
        self.assert_opened(there, own("back", ONE, TWO), op("-", TWO, ONE))
        self.assert_opened(there, own("pick", ONE, TWO, A1), ("if", cell(1, 1, "main"), ONE, TWO))
        self.assert_opened(there, own("less", own("zero"), own("twice", TWO)),
                           op("-", number(0), op("+", TWO, TWO)))
        self.assert_opened(there, neg(own("back", own("less", ONE, TWO), ONE)), neg(op("-", ONE, op("-", ONE, TWO))))

    def test_own_functions_in_their_own_parts(self):
        there = book(owns={"f": (1, neg(P0)), "g": (1, own("f", own("f", P0)))})
        self.assert_opened(there, own("f", own("f", own("f", ONE))), negs(3))
        self.assert_opened(there, own("g", own("g", ONE)), negs(4))
        self.assert_opened(there, own("g", own("f", ONE)), negs(3))
        self.assert_opened(there, own("f", own("g", ONE)), negs(3))

    def test_own_functions_that_are_not_there(self):
        self.assert_opened(book(), own("f"), NAME)
        self.assert_opened(book(), own("f", ONE), NAME)
        self.assert_opened(book({"f": ONE}), own("f"), NAME)
        self.assert_opened(book(owns={"g": (1, own("f", P0))}), op("+", own("g", ONE), ONE), op("+", NAME, ONE))

    def test_another_count_of_parts(self):
        formulas = {0: ONE, 1: neg(P0), 2: op("+", P0, P1), 3: ("if", P0, P1, P2)}
        for count, formula in formulas.items():
            there = book({"a": TWO}, {"f": (count, formula)})
            for many in range(4):
                told = open_up(there, "main", own("f", *[A] * many))
                if many == count:
                    self.assertEqual(count_parts(told), 1 + count)
                else:
                    self.assertEqual(told, NAME)

    def test_own_functions_within_themselves(self):
        one_step = book(owns={"f": (1, op("+", P0, own("f", P0)))})
        self.assert_opened(one_step, own("f", ONE), op("+", ONE, NAME))
        self.assert_opened(one_step, own("f", own("f", ONE)), op("+", op("+", ONE, NAME), NAME))
        two_steps = book(owns={"f": (1, op("+", P0, own("g", P0))), "g": (1, op("*", P0, own("f", P0)))})
        self.assert_opened(two_steps, own("f", ONE), op("+", ONE, op("*", ONE, NAME)))
        self.assert_opened(two_steps, own("g", ONE), op("*", ONE, op("+", ONE, NAME)))
        self.assert_opened(two_steps, op("-", own("f", ONE), own("g", TWO)),
                           op("-", op("+", ONE, op("*", ONE, NAME)), op("*", TWO, op("+", TWO, NAME))))
        self.assert_opened(book(owns={"f": (0, own("f"))}), own("f"), NAME)
        in_a_part = book(owns={"f": (1, own("g", own("f", P0))), "g": (1, neg(P0))})
        self.assert_opened(in_a_part, own("f", ONE), neg(NAME))

    def test_a_part_is_opened_outside(self):
        there = book(owns={"f": (1, own("g", P0)), "g": (1, neg(P0))})
        self.assert_opened(there, own("f", own("g", own("f", ONE))), negs(3))
        self.assert_opened(there, own("g", own("f", own("g", ONE))), negs(3))
        over_a_name = book({"a": own("f", B), "b": own("f", ONE)}, {"f": (1, neg(P0))})
        self.assert_opened(over_a_name, A, negs(2))

    def test_names_and_own_functions_over_each_other(self):
        there = book({"a": own("f", ONE)}, {"f": (1, op("+", P0, A))})
        self.assert_opened(there, A, op("+", ONE, NAME))
        self.assert_opened(there, own("f", TWO), op("+", TWO, NAME))
        self.assert_opened(there, own("f", A), op("+", op("+", ONE, NAME), NAME))
        in_its_part = book({"a": own("f", A)}, {"f": (1, neg(P0))})
        self.assert_opened(in_its_part, A, neg(NAME))

    def test_a_name_and_an_own_function_called_alike(self):
        there = book({"a": own("a", ONE)}, {"a": (1, neg(P0))})
        self.assert_opened(there, A, neg(ONE))
        self.assert_opened(there, own("a", A), neg(neg(ONE)))
        there = book({"a": TWO}, {"a": (1, op("+", P0, A))})
        self.assert_opened(there, own("a", A), op("+", TWO, TWO))

    def test_two_hundred_parts_and_one_more(self):
        there = book({"a": FULL})
        whole = neg(sum_of_all([A] * 8))
        wanted = neg(sum_of_all([FULL] * 8))
        self.assertEqual(count_parts(wanted), 200)
        self.assert_opened(there, whole, wanted)
        self.assert_opened(there, neg(whole), GREAT)
        self.assert_opened(book({"a": FULL, "b": whole}), B, wanted)
        self.assert_opened(book({"a": FULL, "b": neg(whole)}), B, GREAT)
        self.assert_opened(book({"a": FULL, "b": whole}), neg(B), GREAT)
        self.assert_opened(book({"a": FULL, "b": whole}), op("+", ONE, B), GREAT)

    def test_two_hundred_parts_by_own_functions(self):
        eight = book({"a": FULL}, {"f": (1, neg(sum_of_all([P0] * 8))), "g": (1, P0)})
        self.assert_opened(eight, own("f", A), neg(sum_of_all([FULL] * 8)))
        self.assert_opened(eight, own("g", own("f", own("g", A))), neg(sum_of_all([FULL] * 8)))
        self.assert_opened(eight, neg(own("f", A)), GREAT)
        self.assert_opened(eight, own("f", neg(A)), GREAT)
        self.assert_opened(eight, own("f", own("f", A)), GREAT)

    def test_fault_leaves_count(self):
        lost = sum_of_all([("name", "lost"), ("gone",), own("lost", ONE, TWO), cell(1, 1, "none")] * 3)
        self.assertEqual(count_parts(lost), 29)
        faults = sum_of_all([NAME, GONE, NAME, GONE] * 3)
        self.assertEqual(count_parts(faults), 23)
        there = book({"a": neg(sum_of_all([("gone",)] * 12))})
        self.assert_opened(there, neg(sum_of_all([A] * 8)), neg(sum_of_all([neg(sum_of_all([GONE] * 12))] * 8)))
        self.assert_opened(there, negs(2, sum_of_all([A] * 8)), GREAT)
        self.assert_opened(book(), lost, faults)

    def test_what_is_left_out_is_not_counted(self):
        there = book({"a": FULL, "b": sum_of_all([A] * 12)},
                     {"k": (1, ONE), "second": (2, neg(P1)), "over": (1, own("k", own("k", P0))),
                      "lost": (1, own("second", P0, TWO))})
        self.assert_opened(there, B, GREAT)
        self.assert_opened(there, own("k", B), ONE)
        self.assert_opened(there, own("second", B, TWO), neg(TWO))
        self.assert_opened(there, own("second", TWO, B), GREAT)
        self.assert_opened(there, own("over", B), ONE)
        self.assert_opened(there, own("lost", B), neg(TWO))
        self.assert_opened(there, own("gone", B), NAME)
        self.assert_opened(there, own("k", B, B), NAME)
        self.assert_opened(there, op("+", own("k", B), own("lost", B)), op("+", ONE, neg(TWO)))

    def test_what_would_become_very_great(self):
        letters = "abcdefgh"
        names = {letters[k]: sum_of_all([("name", letters[k + 1])] * 12) for k in range(7)}
        names["h"] = FULL
        self.assert_opened(book(names), A, GREAT)
        owns = {letters[k]: (1, sum_of_all([own(letters[k + 1], P0)] * 8)) for k in range(5)}
        owns["f"] = (1, sum_of_all([P0] * 12))
        self.assert_opened(book(owns=owns), own("a", ONE), GREAT)
        owns["f"] = (1, ONE)
        self.assert_opened(book(owns=owns), own("e", own("a", ONE)), sum_of_all([ONE] * 8))

    def test_very_great_parts_that_are_left_out(self):
        letters = "abcdefgh"
        names = {}
        for k in range(7):
            inner = ("name", letters[k + 1])
            names[letters[k]] = sum_of_all([own("k", inner, inner, inner)] * 4)
        names["h"] = ONE
        there = book(names, {"k": (3, TWO)})
        self.assert_opened(there, A, sum_of_all([TWO] * 4))

    def test_own_functions_that_come_to_the_same_over_and_over(self):
        def seven(name, inner):
            for k in range(7):
                inner = own(name, inner)
            return inner

        letters = "abcdef"
        owns = {letters[k]: (1, seven(letters[k + 1], P0)) for k in range(5)}
        owns["f"] = (1, P0)
        self.assert_opened(book(owns=owns), seven("a", A1), cell(1, 1, "main"))
        owns["f"] = (1, neg(P0))
        self.assert_opened(book(owns=owns), seven("a", A1), GREAT)

    def test_as_deep_as_it_goes(self):
        letters = "abcdefgh"
        names = {letters[k]: negs(7, ("name", letters[k + 1])) for k in range(7)}
        names["h"] = negs(7)
        told = open_up(book(names), "main", negs(7, A))
        self.assertTrue(same(told, negs(63)))
        owns = {letters[k]: (1, negs(6, own(letters[k + 1], P0))) for k in range(5)}
        owns["f"] = (1, negs(7, P0))
        for many in range(1, 7):
            formula = ONE
            for k in range(many):
                formula = own("a", formula)
            told = open_up(book(owns=owns), "main", formula)
            self.assertTrue(same(told, negs(37 * many) if many <= 5 else GREAT))

    def test_through_all_names_and_own_functions(self):
        def chain(name):
            inner = ("name", name)
            for k in range(7):
                inner = own("f", inner)
            return inner

        letters = "abcdefgh"
        names = {letters[k]: chain(letters[k + 1]) for k in range(7)}
        names["h"] = ONE
        owns = {letters[k]: (1, own(letters[k + 1], own(letters[k + 1], P0))) for k in range(5)}
        owns["f"] = (1, P0)
        there = book(names, owns)
        self.assert_opened(there, own("a", own("b", own("c", A))), ONE)

    def test_many_books_held_against_the_plain_way(self):
        chance = random.Random(10)
        seen = {"great": 0, "name": 0, "opened": 0, "too long": 0}
        for k in range(3000):
            counts = {name: chance.randint(0, 3) for name in CALLED[:4]}
            names = {name: some_busy(chance, 0, counts) for name in CALLED[:4]}
            owns = {name: (counts[name], some_busy(chance, counts[name], counts)) for name in CALLED[:4]}
            there = book(names, owns)
            asked = some_busy(chance, 0, counts, (None, "main"))
            try:
                wanted = PlainOpener(there, "side").whole(asked)
            except TooLong:
                seen["too long"] += 1
                continue
            self.assert_opened(there, asked, wanted, "side")
            seen["great" if wanted == GREAT else "name" if repr(NAME) in repr(wanted) else "opened"] += 1
        self.assertGreater(min(seen["great"], seen["name"], seen["opened"]), 30, seen)
        self.assertLess(seen["too long"], 600, seen)

    def test_no_names_left_and_the_same_each_time(self):
        there = book({"a": own("f", B), "b": cell(1, 1, "main")}, {"f": (1, op("+", P0, P0))})
        kept = repr(there)
        for formula in (A, own("f", A), ("sum", AREA), read_formula("f(a)+f(lost)*C:D")):
            first = open_up(there, "main", formula)
            self.assertTrue(same(open_up(there, "main", formula), first))
            for word in ("own", "param", "columns", None):
                self.assertNotIn(repr(word), repr(first))
        self.assertEqual(repr(there), kept)

    def test_the_formulas_of_these_tests_keep_the_bounds(self):
        self.assertEqual((count_parts(FULL), deepness(FULL)), (24, 6))
        self.assertIs(is_formula(negs(2, sum_of_all([A] * 8)), 0), True)
        self.assertIs(is_formula(sum_of_all([own("k", A, A, A)] * 4), 0), True)
        self.assertIs(is_formula(sum_of_all([own("f", P0)] * 8), 1), True)


if __name__ == "__main__":
    unittest.main()
