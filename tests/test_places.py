"""Cells and blocks [7]."""

import unittest

from freshsheet import errors
from freshsheet.places import blocks_meet, cell_text, cells_of, is_block, is_cell, lies_within, read_cell

NAMES = ["a", "z", "main", "abcdef", "sum", "yes"]
NO_NAMES = ["", "abcdefg", "Main", "MAIN", "ma in", " main", "main ", "main\n", "a1", "a_b", "a!", "\u00e4b",
            None, 1, True, ("a",), ["a"], b"main"]
NO_WHOLES = [True, False, None, 1.0, "1", "A", (1,), [1]]
ODD_THINGS = [None, True, False, 0, 1, 1.5, "", "main", "main!A1", b"main", [], {}, set(), object(), (), (None,)]


class Alike:
    """A thing that says that it is the same as any other."""

    def __eq__(self, other):
        return True

    def __hash__(self):
        return 0


class CellsTest(unittest.TestCase):
    def test_each_cell_of_the_sheet_and_none_beyond(self):
        for row in range(-2, 20):
            for column in range(-2, 12):
                is_there = 1 <= row <= 16 and 1 <= column <= 8
                self.assertIs(is_cell(("main", row, column)), is_there)

    def test_far_beyond(self):
        for far in (10 ** 60 - 1, -(10 ** 60 - 1)):
            self.assertIs(is_cell(("main", far, 1)), False)
            self.assertIs(is_cell(("main", 1, far)), False)

    def test_names_of_sheets(self):
        for name in NAMES:
            self.assertIs(is_cell((name, 1, 1)), True, name)
            self.assertIs(is_block((name, 1, 1, 1, 1)), True, name)
        for name in NO_NAMES:
            self.assertIs(is_cell((name, 1, 1)), False, name)
            self.assertIs(is_block((name, 1, 1, 1, 1)), False, name)

    def test_what_is_no_whole_number(self):
        for thing in NO_WHOLES:
            self.assertIs(is_cell(("main", thing, 1)), False, thing)
            self.assertIs(is_cell(("main", 1, thing)), False, thing)

    def test_what_is_no_cell_at_all(self):
        for thing in ODD_THINGS + [Alike(), (Alike(), 1, 1), ("main", Alike(), 1)]:
            self.assertIs(is_cell(thing), False)
        for thing in (["main", 1, 1], ("main", 1), ("main", 1, 1, 1), ("main", 1, 1, 2, 2), (1, "main", 1)):
            self.assertIs(is_cell(thing), False, thing)

    def test_what_is_handed_in_stays(self):
        thing = ["main", [1], {"row": 1}]
        is_cell(thing)
        is_block(thing)
        self.assertEqual(thing, ["main", [1], {"row": 1}])


class BlocksTest(unittest.TestCase):
    def test_at_the_edges(self):
        for thing in (("main", 1, 1, 16, 8), ("main", 1, 1, 1, 1), ("main", 16, 8, 16, 8), ("a", 1, 8, 16, 8)):
            self.assertIs(is_block(thing), True, thing)

    def test_beyond_the_edges(self):
        for thing in (("main", 0, 1, 16, 8), ("main", 1, 0, 16, 8), ("main", 1, 1, 17, 8), ("main", 1, 1, 16, 9),
                      ("main", 17, 1, 17, 1), ("main", 1, 9, 1, 9), ("main", 0, 0, 0, 0), ("main", -1, -1, 1, 1)):
            self.assertIs(is_block(thing), False, thing)

    def test_the_last_ahead_of_the_first(self):
        self.assertIs(is_block(("main", 2, 1, 1, 1)), False)
        self.assertIs(is_block(("main", 1, 2, 1, 1)), False)
        self.assertIs(is_block(("main", 16, 8, 1, 1)), False)
        self.assertIs(is_block(("main", 2, 1, 1, 8)), False)
        self.assertIs(is_block(("main", 1, 2, 16, 1)), False)

    def test_what_is_no_whole_number(self):
        for thing in NO_WHOLES:
            for place in (1, 2, 3, 4):
                block = ["main", 1, 1, 1, 1]
                block[place] = thing
                self.assertIs(is_block(tuple(block)), False, block)

    def test_what_is_no_block_at_all(self):
        for thing in ODD_THINGS + [Alike(), (Alike(), 1, 1, 1, 1), ("main", 1, Alike(), 1, 1)]:
            self.assertIs(is_block(thing), False)
        for thing in (["main", 1, 1, 1, 1], ("main", 1, 1), ("main", 1, 1, 1), ("main", 1, 1, 1, 1, 1),
                      (("main", 1, 1), ("main", 1, 1))):
            self.assertIs(is_block(thing), False, thing)


class CellTextsTest(unittest.TestCase):
    def assert_no_text(self, thing):
        with self.assertRaises(errors.NoText) as taken:
            read_cell(thing)
        self.assertEqual(taken.exception.at, 0)

    def test_by_hand(self):
        self.assertEqual(cell_text(("main", 3, 2)), "main!B3")
        self.assertEqual(cell_text(("a", 1, 1)), "a!A1")
        self.assertEqual(cell_text(("abcdef", 16, 8)), "abcdef!H16")
        self.assertEqual(read_cell("main!B3"), ("main", 3, 2))
        self.assertEqual(read_cell("sum!H16"), ("sum", 16, 8))

    def test_there_and_back(self):
        for sheet in NAMES:
            for row in range(1, 17):
                for column in range(1, 9):
                    cell = (sheet, row, column)
                    text = cell_text(cell)
                    self.assertEqual(text, sheet + "!" + "ABCDEFGH"[column - 1] + str(row))
                    told = read_cell(text)
                    self.assertEqual(told, cell)
                    self.assertEqual([type(part) for part in told], [str, int, int])

    def test_texts_that_are_no_cell(self):
        for text in ("", "!", "main", "main!", "main!A", "main!1", "main!1A", "main!a1", "main!I1", "main!Z1",
                     "main!A0", "main!A17", "main!A20", "main!A99", "main!A100", "main!A01", "main!A001", "main!A-1",
                     "main!A+1", "main!A1.0", "main! A1", "main!A 1", "main!A1 ", " main!A1", "main !A1", "main!A1\n",
                     "main!AA1", "main!!A1", "main!A1!", "main!A1!B2", "main!$A$1", "main!A$1", "main!A1:B2", "!A1",
                     "A1", "Main!A1", "MAIN!A1", "abcdefg!A1", "m1!A1", "main.A1", "main:A1", "main!A\u00b2",
                     "main!A\u0661", "m\u00e4in!A1", "main!@1", "main![1", "main!A1_", "main!A1_0",
                     "main!A1x", "main!Ax", "a" * 200, "1" * 200, "main!A" + "1" * 5000):
            with self.subTest(text):
                self.assert_no_text(text)

    def test_what_is_no_text(self):
        for thing in (None, True, 0, 1, 1.5, b"main!A1", ("main", 1, 1), ["main!A1"], ("main!A1",), {}, object()):
            with self.subTest(thing):
                self.assert_no_text(thing)


class CellsOfTest(unittest.TestCase):
    def test_row_by_row(self):
        self.assertEqual(cells_of(("main", 2, 3, 3, 5)), [
            ("main", 2, 3), ("main", 2, 4), ("main", 2, 5),
            ("main", 3, 3), ("main", 3, 4), ("main", 3, 5)])

    def test_a_single_one(self):
        self.assertEqual(cells_of(("main", 16, 8, 16, 8)), [("main", 16, 8)])

    def test_a_row_and_a_column(self):
        self.assertEqual(cells_of(("a", 4, 1, 4, 3)), [("a", 4, 1), ("a", 4, 2), ("a", 4, 3)])
        self.assertEqual(cells_of(("a", 4, 1, 6, 1)), [("a", 4, 1), ("a", 5, 1), ("a", 6, 1)])

    def test_the_whole_sheet(self):
        told = cells_of(("main", 1, 1, 16, 8))
        self.assertEqual(len(told), 128)
        self.assertEqual(told, sorted(set(told)))

    def test_a_new_list_each_time(self):
        block = ("main", 1, 1, 2, 2)
        first = cells_of(block)
        kept = list(first)
        first.clear()
        second = cells_of(block)
        self.assertIs(type(second), list)
        self.assertEqual(second, kept)
        self.assertIsNot(cells_of(block), second)


def some_blocks(sheet):
    """All blocks of the rows 1 to 4 and the columns 1 to 3."""
    return [(sheet, row, column, last_row, last_column)
            for row in range(1, 5) for last_row in range(row, 5)
            for column in range(1, 4) for last_column in range(column, 4)]


class TwoBlocksTest(unittest.TestCase):
    def test_held_against_their_cells(self):
        blocks = [(block, set(cells_of(block))) for block in some_blocks("main") + some_blocks("side")]
        for one, ones in blocks:
            for other, others in blocks:
                self.assertIs(blocks_meet(one, other), bool(ones & others), (one, other))
                self.assertIs(lies_within(one, other), ones <= others, (one, other))

    def test_beside_one_another_by_an_edge(self):
        middle = ("main", 5, 3, 8, 5)
        for beside in (("main", 9, 3, 9, 5), ("main", 4, 3, 4, 5), ("main", 5, 6, 8, 6), ("main", 5, 2, 8, 2),
                       ("main", 9, 6, 10, 7), ("main", 1, 1, 4, 8), ("main", 1, 6, 16, 8)):
            self.assertIs(blocks_meet(middle, beside), False, beside)
            self.assertIs(blocks_meet(beside, middle), False, beside)
            self.assertIs(lies_within(middle, beside), False, beside)

    def test_by_a_corner(self):
        middle = ("main", 5, 3, 8, 5)
        for corner in (("main", 8, 5, 9, 6), ("main", 1, 1, 5, 3), ("main", 8, 1, 16, 3), ("main", 1, 5, 5, 8)):
            self.assertIs(blocks_meet(middle, corner), True, corner)
            self.assertIs(blocks_meet(corner, middle), True, corner)
            self.assertIs(lies_within(corner, middle), False, corner)

    def test_across(self):
        tall = ("main", 1, 3, 16, 3)
        wide = ("main", 5, 1, 5, 8)
        self.assertIs(blocks_meet(tall, wide), True)
        self.assertIs(lies_within(tall, wide), False)
        self.assertIs(lies_within(wide, tall), False)

    def test_one_within_the_other(self):
        inner = ("main", 5, 3, 8, 5)
        outer = ("main", 4, 2, 9, 6)
        self.assertIs(blocks_meet(inner, outer), True)
        self.assertIs(blocks_meet(outer, inner), True)
        self.assertIs(lies_within(inner, outer), True)
        self.assertIs(lies_within(outer, inner), False)

    def test_the_same(self):
        block = ("main", 5, 3, 8, 5)
        self.assertIs(blocks_meet(block, ("main", 5, 3, 8, 5)), True)
        self.assertIs(lies_within(block, ("main", 5, 3, 8, 5)), True)

    def test_on_two_sheets(self):
        self.assertIs(blocks_meet(("main", 1, 1, 16, 8), ("side", 1, 1, 16, 8)), False)
        self.assertIs(lies_within(("main", 2, 2, 3, 3), ("side", 1, 1, 16, 8)), False)


if __name__ == "__main__":
    unittest.main()
