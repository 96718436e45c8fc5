"""The shape of an opened formula [14]."""

import random
import unittest

from freshsheet.formulas import count_parts
from freshsheet.openings import open_up
from freshsheet.reader import read_formula
from freshsheet.shapes import shape_of
from plain import NO, YES, plain_shape, some_fitting, text
from samples import ONE, neg, negs, number, same, some_formula

BOOK = (("main", "side"), (), (("area", read_formula("main!A1:C2")),), (("two", 2, read_formula("stack(?0;?1)")),), 0)
ONE_PLACE = (1, 1)


def opened(formula_text):
    """The formula of a text, opened on the sheet main."""
    return open_up(BOOK, "main", read_formula(formula_text))


def area(high, wide):
    """A range of a shape."""
    return ("range", "main", (1, 1, False, False), (high, wide, False, False))


class ShapesTest(unittest.TestCase):
    def assert_shape(self, tree, wanted):
        self.assertTrue(same(shape_of(tree), wanted), (tree, shape_of(tree), wanted))
        self.assertEqual(plain_shape(tree), wanted)

    def assert_shapes(self, wanted, *texts):
        for formula_text in texts:
            self.assert_shape(opened(formula_text), wanted)

    def test_leaves(self):
        for tree in (number(7), ("value", text("ab")), ("value", YES), ("value", NO), ("fault", "gone"),
                     ("fault", "name"), ("fault", "great"), ("cell", "main", (3, 2, False, True)),
                     ("cell", "side", (16, 8, True, True))):
            self.assert_shape(tree, ONE_PLACE)
        self.assert_shapes(ONE_PLACE, "#", "lost", "lost(1)", "none!A1:B2", "none!A:B", "A1")

    def test_ranges(self):
        self.assert_shapes((1, 1), "A1:A1", "$H$16:H16")
        self.assert_shapes((2, 3), "A1:C2", "$B3:D$4", "side!F15:H16", "area")
        self.assert_shapes((16, 8), "A1:H16", "A:H")
        self.assert_shapes((16, 1), "C:C", "$C:C", "side!H:$H")
        self.assert_shapes((1, 8), "A7:H7")
        self.assert_shapes((7, 2), "B10:C16")

    def test_signs(self):
        for sign in "+-*/&=<":
            self.assert_shapes((1, 1), f"1{sign}2", f"A1{sign}A1:A1", f"#{sign}A1")
            self.assert_shapes((2, 3), f"A1:C2{sign}B5:D6", f"A1:C2{sign}1", f"yes{sign}A1:C2", f"#{sign}A1:C2",
                               f"A1:C2{sign}H1:H1")
            self.assert_shapes(None, f"A1:C2{sign}A1:B3", f"A1:C2{sign}A1:C1", f"A1:A2{sign}A1:B1",
                               f"A1:C1{sign}A1:A1{sign}A1:A3")

    def test_neg(self):
        self.assert_shapes((1, 1), "-1", "-A1", "--lost")
        self.assert_shapes((2, 3), "-A1:C2", "---A1:C2")
        self.assert_shapes(None, "-(A1:C2+A1:B1)")

    def test_if(self):
        self.assert_shapes((1, 1), "if(A1;1;2)", "if(#;A1:A1;2)")
        self.assert_shapes((2, 3), "if(A1;A1:C2;D1:F2)", "if(1;A1:C2;2)", "if(1;2;A1:C2)", "if(A1:A1;2;A1:C2)")
        self.assert_shapes(None, "if(A1:A2;1;2)", "if(A1:C2;A1:C2;A1:C2)", "if(A1;A1:C2;A1:B3)", "if(1;A1:A2;A1:B1)")

    def test_sum_count_least_most(self):
        for word in ("sum", "count", "least", "most"):
            self.assert_shapes((1, 1), f"{word}(1)", f"{word}(A1:C2)", f"{word}(A:H)", f"{word}(stack(A:C;D:F))")
            self.assert_shapes(None, f"{word}(A1:C2+A1:B1)", f"{word}(turn(A1:A2&A1:A3))")

    def test_sumif(self):
        for sign in "=<":
            self.assert_shapes((1, 1), f"sumif(1;{sign};2;3)", f"sumif(A1:C2;{sign};1;D1:F2)",
                               f"sumif(A:B;{sign};A1;C:D)", f"sumif(A1:A1;{sign};1;3)")
            self.assert_shapes(None, f"sumif(A1:C2;{sign};A1:A2;A1:C2)", f"sumif(A1:C2;{sign};1;A1:B3)",
                               f"sumif(A1:C2;{sign};1;2)", f"sumif(1;{sign};1;A1:C2)",
                               f"sumif(A1:C2;{sign};A1:C2;A1:C2)", f"sumif(1;{sign};A1:A2;2)")

    def test_find(self):
        self.assert_shapes((1, 1), "find(1;2;3)", "find(1;A1:C2;2)", "find(A1;A:H;A1:A1)", "find(#;A1:A1;#)")
        self.assert_shapes(None, "find(A1:A2;A1:C2;2)", "find(1;A1:C2;A1:B1)", "find(A1:C2;A1:C2;A1:C2)")

    def test_turn(self):
        self.assert_shapes((1, 1), "turn(1)", "turn(A1)")
        self.assert_shapes((3, 2), "turn(A1:C2)", "turn(turn(turn(A1:C2)))", "turn(area)")
        self.assert_shapes((2, 3), "turn(turn(A1:C2))")
        self.assert_shapes((8, 16), "turn(A:H)")
        self.assert_shapes((1, 16), "turn(A:A)")

    def test_stack(self):
        self.assert_shapes((2, 1), "stack(1;2)", "stack(A1;#)", "two(1;2)")
        self.assert_shapes((5, 3), "stack(A1:C2;D1:F3)", "two(D1:F3;area)")
        self.assert_shapes((3, 1), "stack(1;A1:A2)", "stack(A1:A2;1)")
        self.assert_shapes(None, "stack(A1:C2;1)", "stack(1;A1:B1)", "stack(A1:C2;A1:B3)", "two(area;1)")

    def test_grid(self):
        self.assert_shapes((2, 3), "grid(2;3;1;2)", "grid(2;3;#;A1:A1)")
        self.assert_shapes((1, 1), "grid(1;1;1;2)")
        self.assert_shapes((16, 8), "grid(16;8;A1;B1)")
        self.assert_shapes((16, 1), "grid(16;1;A1;B1)")
        self.assert_shapes(None, "grid(2;3;A1:A2;1)", "grid(2;3;1;A1:B1)", "grid(2;3;A1:C2;A1:C2)")

    def test_outer(self):
        self.assert_shapes((1, 1), "outer(1)", "outer(A1:A1)", "outer(sum(A:B))", "outer(#)")
        self.assert_shapes(None, "outer(A1:A2)", "outer(turn(A1:C1))", "outer(A1:C2)")

    def test_a_part_without_a_shape(self):
        bad = opened("A1:A2+A1:B1")
        self.assert_shape(bad, None)
        for around in (neg, lambda part: ("op", "=", part, ONE), lambda part: ("op", "&", area(2, 2), part),
                       lambda part: ("if", part, ONE, ONE), lambda part: ("if", ONE, part, ONE),
                       lambda part: ("if", ONE, ONE, part), lambda part: ("sum", part), lambda part: ("count", part),
                       lambda part: ("least", part), lambda part: ("most", part), lambda part: ("turn", part),
                       lambda part: ("sumif", part, "=", ONE, part), lambda part: ("sumif", ONE, "=", part, ONE),
                       lambda part: ("sumif", ONE, "<", ONE, part), lambda part: ("sumif", part, "<", ONE, ONE),
                       lambda part: ("find", part, ONE, ONE), lambda part: ("find", ONE, part, ONE),
                       lambda part: ("find", ONE, ONE, part), lambda part: ("stack", part, part),
                       lambda part: ("stack", ONE, part), lambda part: ("grid", 2, 3, part, ONE),
                       lambda part: ("grid", 2, 3, ONE, part), lambda part: ("outer", part)):
            self.assertIsNone(shape_of(around(bad)))
            self.assertIsNone(shape_of(("sum", around(bad))))
            self.assertIsNone(shape_of(neg(around(neg(bad)))))

    def test_great_heights_and_widths(self):
        high = area(16, 8)
        for k in range(99):
            high = ("stack", high, area(16, 8))
        self.assertEqual(count_parts(high), 199)
        self.assert_shape(high, (1600, 8))
        self.assert_shape(("turn", high), (8, 1600))
        wide = ("turn", area(16, 8))
        for k in range(60):
            wide = ("stack", wide, ("turn", area(16, 8)))
        self.assert_shape(wide, (488, 16))
        self.assert_shape(("stack", ("turn", high), ("turn", high)), (16, 1600))
        self.assert_shape(("op", "+", high, ONE), (1600, 8))
        self.assert_shape(("op", "+", high, ("turn", high)), None)
        self.assert_shape(("sum", ("turn", high)), ONE_PLACE)

    def test_great_depths(self):
        self.assert_shape(negs(199, area(3, 2)), (3, 2))
        tree = area(3, 2)
        for k in range(199):
            tree = ("turn", tree)
        self.assert_shape(tree, (2, 3))

    def test_formulas_made_to_fit(self):
        chance = random.Random(14)
        for k in range(1500):
            wanted = (chance.randint(1, 5), chance.randint(1, 4))
            self.assert_shape(some_fitting(chance, wanted, chance.randint(1, 6), ["main"], [("fault", "name")]), wanted)

    def test_formulas_of_any_kind(self):
        chance = random.Random(15)
        seen = []
        for k in range(1500):
            tree = open_up(BOOK, "side", some_formula(chance, chance.randint(1, 4), 0))
            seen.append(plain_shape(tree))
            self.assert_shape(tree, seen[-1])
        self.assertGreater(min(seen.count(None), seen.count((1, 1)), len(set(seen))), 25)


if __name__ == "__main__":
    unittest.main()
