"""What a cell leans on [18], and the movers of a book [19]."""

import random
import unittest

from freshsheet.books import book_of, meaning_of, meanings_of
from freshsheet.leans import leans_on, leaves_of, movers_of
from freshsheet.openings import open_up
from freshsheet.places import cell_text
from freshsheet.reader import read_formula
from freshsheet.reckon import reckoned
from plain import book, cells_of_sheets, num, place, plain_meanings, some_book, some_fitting
from samples import negs, same

BOOK = (("main", "side"), (), (("area", read_formula("side!A1:B2")),), (("twice", 1, read_formula("?0+?0")),), 0)


def opened(formula_text):
    return open_up(BOOK, "main", read_formula(formula_text))


def main_cells(*texts):
    """Cells of the sheet main, or of the one that is told."""
    return [place(signs) for signs in texts]


class LeavesTest(unittest.TestCase):
    def assert_leaves(self, formula_text, *blocks):
        self.assertTrue(same(leaves_of(opened(formula_text)), list(blocks)), leaves_of(opened(formula_text)))

    def test_no_leaves(self):
        for formula_text in ("1", '"a"', "yes", "#", "lost", "lost(A1)", "none!A1", "none!A:B", "1+2*sum(3)"):
            self.assert_leaves(formula_text)
        self.assertEqual(leaves_of(("fault", "great")), [])

    def test_a_cell_is_a_block_of_one(self):
        self.assert_leaves("A1", ("main", 1, 1, 1, 1))
        self.assert_leaves("side!$H$16", ("side", 16, 8, 16, 8))
        self.assert_leaves("-sum(B3)", ("main", 3, 2, 3, 2))

    def test_ranges(self):
        self.assert_leaves("A1:C2", ("main", 1, 1, 2, 3))
        self.assert_leaves("sum(side!$B3:D$16)", ("side", 3, 2, 16, 4))
        self.assert_leaves("B:$C", ("main", 1, 2, 16, 3))
        self.assert_leaves("area", ("side", 1, 1, 2, 2))

    def test_each_once_and_sorted(self):
        self.assert_leaves("B2+A1", ("main", 1, 1, 1, 1), ("main", 2, 2, 2, 2))
        self.assert_leaves("side!A1+H16+A1:A10+A2:A2+A10+A1", ("main", 1, 1, 1, 1), ("main", 1, 1, 10, 1),
                           ("main", 2, 1, 2, 1), ("main", 10, 1, 10, 1), ("main", 16, 8, 16, 8), ("side", 1, 1, 1, 1))
        self.assert_leaves("A1+$A$1+A1:A1+main!A1", ("main", 1, 1, 1, 1))
        self.assert_leaves("A:A+A1:A16+$A$1:$A$16", ("main", 1, 1, 16, 1))
        self.assert_leaves("twice(area+A1)+area", ("main", 1, 1, 1, 1), ("side", 1, 1, 2, 2))
        self.assert_leaves("A2:B3+A1:B3+A1:A9+A1:C2", ("main", 1, 1, 2, 3), ("main", 1, 1, 3, 2), ("main", 1, 1, 9, 1),
                           ("main", 2, 1, 3, 2))

    def test_leaves_in_every_place(self):
        for around in ("-{}", "{}+1", "1&{}", "if({};1;2)", "if(1;{};2)", "if(1;2;{})", "sum({})", "count({})",
                       "least({})", "most({})", "sumif({};=;1;2)", "sumif(1;=;{};2)", "sumif(1;<;2;{})",
                       "find({};1;2)", "find(1;{};2)", "find(1;2;{})", "turn({})", "stack({};1)", "stack(1;{})",
                       "grid(1;2;{};1)", "grid(1;2;1;{})", "outer({})", "twice({})", "sum(turn(-{}))"):
            self.assert_leaves(around.replace("{}", "C4"), ("main", 4, 3, 4, 3))
            self.assert_leaves(around.replace("{}", "A1:B2"), ("main", 1, 1, 2, 2))

    def test_formulas_without_a_shape_have_leaves(self):
        self.assert_leaves("A1:A2+A1:B1", ("main", 1, 1, 1, 2), ("main", 1, 1, 2, 1))

    def test_great_depths(self):
        tree = negs(199, ("cell", "main", (4, 3, False, False)))
        self.assertEqual(leaves_of(tree), [("main", 4, 3, 4, 3)])

    def test_what_is_reckoned_asks_for_the_cells_of_the_leaves(self):
        chance = random.Random(21)
        for k in range(500):
            tree = some_fitting(chance, (2, 2), chance.randint(1, 5), ["main", "side"], [("fault", "name")])
            asked = []
            reckoned(tree, ("main", 1, 1), lambda cell: asked.append(cell) or num(1), lambda value: value)
            blocks = leaves_of(tree)
            self.assertEqual(blocks, sorted(set(blocks)))
            cells = {(sheet, row, column) for sheet, top, left, low, right in blocks
                     for row in range(top, low + 1) for column in range(left, right + 1)}
            self.assertEqual(set(asked), cells)


class LeansTest(unittest.TestCase):
    def assert_leans(self, there, cell, *wanted):
        told = leans_on(there, place(cell))
        self.assertTrue(same(told, main_cells(*wanted)), [cell_text(leaning) for leaning in told])

    def test_what_leans_on_none(self):
        there = book({"A1": "5", "B1": "'a", "C1": "yes", "D1": "=A1:A2+A1:B1", "E1": "=A1:A3", "E2": "1", "F1": "=1+2",
                      "G1": "=#+lost", "H1": "=A1:B1"})
        for cell in ("A1", "B1", "C1", "D1", "E1", "E2", "F1", "G1", "H1", "A2", "H16", "side!A1"):
            self.assert_leans(there, cell)
        self.assertEqual(meaning_of(there, ("main", 1, 5)), ("bad", "blocked"))

    def test_formulas(self):
        there = book({"A1": "=B2+A5:B6*sum(side!C3)", "C1": "=sum(B2)+B2+$B$2:B3", "D9": "=sum(A:A)"})
        self.assert_leans(there, "A1", "B2", "A5", "B5", "A6", "B6", "side!C3")
        self.assert_leans(there, "C1", "B2", "B3")
        self.assert_leans(there, "D9", *[f"A{row}" for row in range(1, 17)])

    def test_a_formula_leans_on_empty_cells_too(self):
        self.assert_leans(book({"A1": "=sum(F7:G8)"}), "A1", "F7", "G7", "F8", "G8")

    def test_itself_where_it_is_among_them(self):
        self.assert_leans(book({"B2": "=B2"}), "B2", "B2")
        self.assert_leans(book({"B2": "=sum(A1:B3)"}), "B2", "A1", "B1", "A2", "B2", "A3", "B3")
        self.assert_leans(book({"B2": "=A1:B2"}), "B2", "A1", "B1", "A2", "B2")

    def test_parts_lean_on_their_anchor(self):
        there = book({"B2": "=E5:F6+A1", "side!A1": "=turn(main!A1:B1)"})
        self.assert_leans(there, "B2", "A1", "E5", "F5", "E6", "F6")
        for cell in ("C2", "B3", "C3"):
            self.assert_leans(there, cell, "B2")
        self.assert_leans(there, "side!A1", "A1", "B1")
        self.assert_leans(there, "side!A2", "side!A1")

    def test_names_and_own_functions(self):
        there = book({"A1": "=a+twice(B1)*f(C1)", "A2": "=lost(C1)"}, {"a": "side!A1:B1"},
                     {"twice": (1, "?0+?0+main!H1"), "f": (1, "1")})
        self.assert_leans(there, "A1", "B1", "H1", "side!A1", "side!B1")
        self.assert_leans(there, "A2")

    def test_sorted_by_sheet_row_and_column(self):
        there = book({"A1": "=sum(zz!B2)+sum(A10:B10)+sum(A2)+sum(H1)+sum(ab!C9)"}, sheets=("main", "zz", "ab"))
        self.assert_leans(there, "A1", "ab!C9", "H1", "A2", "A10", "B10", "zz!B2")

    def test_as_many_as_there_are(self):
        there = book({"A1": "=sum(A:H)+sum(side!A:H)+sum(c!A:H)+sum(d!A:H)"}, sheets=("main", "side", "c", "d"))
        self.assertEqual(leans_on(there, ("main", 1, 1)), sorted(cells_of_sheets(there)))

    def test_what_is_told_is_the_askers_own(self):
        there = book({"A1": "=B2+B3", "C1": "=grid(2;1;1;1)"})
        for cell in (("main", 1, 1), ("main", 2, 3), ("main", 1, 3)):
            wanted = repr(leans_on(there, cell))
            leans_on(there, cell).append(None)
            self.assertEqual(repr(leans_on(there, cell)), wanted)
        leaves = leaves_of(opened("A1+B1"))
        leaves.clear()
        self.assertEqual(len(leaves_of(opened("A1+B1"))), 2)
        movers_of(there).clear()
        self.assertEqual(len(movers_of(there)), 3)

    def test_movers(self):
        self.assertEqual(movers_of(book({})), [])
        self.assertEqual(movers_of(book({"A1": "5", "B1": "=A1:A2+A1:B1", "H1": "=A1:B1"})), [])
        there = book({"B2": "=grid(2;2;1;1)", "A10": "=#", "A2": "=1", "D1": "=C1:C2", "D2": "7", "side!A1": "=A1",
                      "H16": "yes", "G1": "=if(A1:B1;1;2)"})
        self.assertTrue(same(movers_of(there), main_cells("A2", "B2", "C2", "B3", "C3", "A10", "side!A1")))

    def test_books_made_by_chance(self):
        chance = random.Random(22)
        for k in range(300):
            there = book_of(*some_book(chance))
            meanings = plain_meanings(there)
            movers = sorted(cell for cell, meaning in meanings.items() if meaning[0] in ("formula", "part"))
            self.assertEqual(movers_of(there), movers)
            for cell in chance.sample(movers, min(4, len(movers))) + chance.sample(cells_of_sheets(there), 2):
                meaning = meanings.get(cell, ("empty",))
                asked = [meaning[1]] if meaning[0] == "part" else []
                if meaning[0] == "formula":
                    reckoned(meaning[1], cell, lambda of: asked.append(of) or num(1), lambda value: value)
                self.assertEqual(leans_on(there, cell), sorted(set(asked)))
            self.assertEqual([cell for cell, meaning in meanings_of(there) if cell in movers], movers)


if __name__ == "__main__":
    unittest.main()
