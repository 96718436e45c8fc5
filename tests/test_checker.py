"""Which papers are let by, and what they show [22] [23]."""

import collections
import copy
import random
import unittest

from freshsheet.books import book_of
from freshsheet.checker import lets_by, shown_by
from freshsheet.fresh import all_shown, shown_at
from freshsheet.papers import paper_of
from freshsheet.places import cell_text
from plain import NO, NONE, YES, book, cells_of_sheets, fault, num, one_of, place, plain_meanings, some_book, text
from plainfresh import outer_of, plain_lets_by, plain_shown, some_knotty_book, standing_in
from samples import same
from spoils import spoiled

CONTENTS = {"A1": "5", "B1": "=A1+1", "C1": "=outer(B1)", "D1": "=grid(2;2;C1;1)", "F1": "=G1+B1", "G1": "=F1*2",
            "H1": "=F1+E2", "A5": "=A6+G1", "A6": "=A5", "A7": "=A7+1", "B7": "=H16", "C7": "=D7:E8+D7:F7", "A8": "=C7"}


def places(signs):
    return [place(cell) for cell in signs.split()]


def plain_row(cell, table, level):
    return ("plain", place(cell), table, level)


def knot_row(cells, walk, level, rounds):
    return ("knot", places(cells), places(walk), level, rounds)


def numbers(*tops):
    """A list of tables of single numbers; None is none."""
    return [one_of(NONE if top is None else num(top)) for top in tops]


def grid_of(*rows):
    return tuple(tuple(NONE if top is None else num(top) for top in row) for row in rows)


class CheckerCase(unittest.TestCase):
    there = None
    outer = staticmethod(outer_of)

    def answer(self, paper):
        """What is told of a paper, which isn't changed by it."""
        before = repr((self.there, paper))
        told = lets_by(self.there, paper, self.outer)
        self.assertEqual(repr((self.there, paper)), before)
        self.assertIs(told, plain_lets_by(self.there, paper, self.outer), paper)
        return told

    def assert_right(self, paper):
        self.assertIs(self.answer(paper), True, paper)

    def assert_wrong(self, paper):
        self.assertIs(self.answer(paper), False, paper)


class ChainTest(CheckerCase):
    """A book without knots."""

    there = book({"A1": "5", "B1": "=A1+1", "C1": "=B1*B1", "D1": "=C1-B1+H16", "E1": "=A1:B1+B2:C3", "F1": "=E1"})
    rows = [plain_row("B1", one_of(num(6)), 0), plain_row("C1", one_of(num(36)), 1),
            plain_row("D1", one_of(num(30)), 2)]

    def with_row(self, place_of, row):
        return self.rows[:place_of] + [row] + self.rows[place_of + 1:]

    def test_right_ones(self):
        self.assert_right([])
        self.assert_right(self.rows)
        self.assert_right(self.rows[::-1])
        self.assert_right([self.rows[1], self.rows[2], self.rows[0]])
        self.assert_right(self.rows[:1])
        self.assert_right(self.rows[:2])
        self.assert_right(self.rows + [plain_row("F1", one_of(fault("shape", place("E1"))), 0)])
        self.assert_right([plain_row("F1", one_of(fault("shape", place("E1"))), 7)])

    def test_levels(self):
        for levels in ((0, 1, 2), (0, 1, 7), (3, 4, 5), (0, 10 ** 59, 10 ** 59 + 1), (5, 10, 15)):
            self.assert_right([row[:3] + (level,) for row, level in zip(self.rows, levels)])
        for levels in ((0, 0, 1), (0, 1, 1), (1, 1, 2), (0, 2, 1), (2, 1, 0), (1, 0, 2), (-1, 0, 1), (-1, 1, 2),
                       (-3, -2, -1), (0, 1, -1), (0, 0, 0), (-10 ** 59, 1, 2)):
            self.assert_wrong([row[:3] + (level,) for row, level in zip(self.rows, levels)])

    def test_lower_than_all_on_which_it_leans(self):
        self.there = book({"A1": "=1", "B1": "=A1", "C1": "=A1+B1", "D1": "=B1+A1"})
        rows = [plain_row(cell, one_of(num(top)), level) for cell, top, level in
                (("A1", 1, 0), ("B1", 1, 1), ("C1", 2, 2), ("D1", 2, 2))]
        self.assert_right(rows)
        for k in (2, 3):
            self.assert_wrong(rows[:k] + [rows[k][:3] + (1,)] + rows[k + 1:])

    def test_a_row_left_out(self):
        for paper in (self.rows[1:], self.rows[2:], self.rows[:1] + self.rows[2:], [self.rows[1]], [self.rows[2]]):
            self.assert_wrong(paper)

    def test_a_row_told_twice(self):
        for row in self.rows:
            self.assert_wrong(self.rows + [row])
            self.assert_wrong([row] + self.rows)
            self.assert_wrong(self.rows + [row[:3] + (9,)])
        self.assert_wrong(self.rows + [plain_row("B1", one_of(num(7)), 0)])

    def test_cells_that_are_no_movers(self):
        for cell, value in (("A1", num(5)), ("H16", NONE), ("E1", fault("shape", place("E1"))), ("side!A1", NONE)):
            self.assert_wrong(self.rows + [plain_row(cell, one_of(value), 0)])
            self.assert_wrong([plain_row(cell, one_of(value), 0)])
        self.assert_wrong(self.rows + [("plain", ("none", 1, 1), one_of(NONE), 0)])
        self.assert_wrong(self.rows + [("plain", ("none", 1, 2), one_of(num(6)), 0)])

    def test_another_value(self):
        for k, row in enumerate(self.rows):
            for value in (NONE, num(0), num(5), num(37), text("6"), YES, NO, fault("kind", place("B1"))):
                self.assert_wrong(self.with_row(k, row[:2] + (one_of(value), row[3])))

    def test_values_that_fit_each_other_but_not_the_book(self):
        self.assert_wrong([plain_row("B1", one_of(num(7)), 0), plain_row("C1", one_of(num(49)), 1)])

    def test_another_shape(self):
        for table in (grid_of((6, 6)), grid_of((6,), (6,)), grid_of((6, None)), grid_of((6,), (None,))):
            self.assert_wrong(self.with_row(0, plain_row("B1", table, 0)))

    def test_knot_rows(self):
        for there_rounds, rounds in ((0, []), (1, [numbers(6)]), (2, [numbers(6), numbers(6)])):
            self.there = self.there[:4] + (there_rounds,)
            self.assert_right(self.rows)
            self.assert_wrong([knot_row("B1", "B1", 0, rounds)] + self.rows[1:])
            self.assert_wrong([knot_row("B1", "", 0, rounds)] + self.rows[1:])
            self.assert_wrong([knot_row("B1", "B1", 0, rounds)])
            self.assert_wrong([knot_row("B1 C1", "C1 B1", 0, [])])
            self.assert_wrong(self.rows + [knot_row("", "", 0, [[] for told in rounds])])
            self.assert_wrong([knot_row("", "", 0, [[] for told in rounds])])

    def test_another_outer_function(self):
        self.there = book({"A1": "=outer(5)", "B1": "=outer(1/0)"})
        rows = [plain_row("A1", one_of(num(6)), 0), plain_row("B1", one_of(fault("nought", place("B1"))), 0)]
        self.assert_right(rows)
        self.outer = lambda value: num(7)
        self.assert_wrong(rows)
        self.assert_right(rows[1:])
        self.assert_right([plain_row("A1", one_of(num(7)), 0)] + rows[1:])


class TableTest(CheckerCase):
    """A book with parts."""

    there = book({"A1": "5", "B1": "=grid(2;2;A1;1)", "A3": "=sum(B1:C2)", "D1": "=stack(B2;C1)"})
    rows = [plain_row("B1", grid_of((5, 6), (7, 8)), 0), plain_row("C1", one_of(num(6)), 1),
            plain_row("B2", one_of(num(7)), 1), plain_row("C2", one_of(num(8)), 1),
            plain_row("D1", grid_of((7,), (6,)), 2), plain_row("D2", one_of(num(6)), 3),
            plain_row("A3", one_of(num(26)), 2)]

    def test_right_ones(self):
        self.assert_right(self.rows)
        self.assert_right(self.rows[:1])
        self.assert_right(self.rows[:2])
        self.assert_right([self.rows[3], self.rows[0]])

    def test_a_part_without_its_anchor(self):
        self.assert_wrong(self.rows[1:])
        self.assert_wrong(self.rows[1:2])

    def test_a_part_no_higher_than_its_anchor(self):
        for k in (1, 2, 3):
            self.assert_wrong([self.rows[0], self.rows[k][:3] + (0,)])
        self.assert_wrong([self.rows[0][:3] + (1,)] + self.rows[1:])

    def test_a_table_left_out_in_part(self):
        for row in self.rows[:4]:
            self.assert_wrong([other for other in self.rows if other != row])

    def test_another_value_at_any_place(self):
        for k, row in enumerate(self.rows):
            for high, line in enumerate(row[2]):
                for wide in range(len(line)):
                    table = [list(values) for values in row[2]]
                    table[high][wide] = num(9)
                    table = tuple(tuple(values) for values in table)
                    self.assert_wrong(self.rows[:k] + [row[:2] + (table, row[3])] + self.rows[k + 1:])

    def test_another_shape(self):
        for table in (grid_of((5, 6)), grid_of((5,), (7,)), grid_of((5,)), grid_of((5, 6), (7, 8), (9, 10)),
                      grid_of((5, 6, 7), (8, 9, 10)), grid_of((5, 6, 7, 8)), grid_of((5, 7), (6, 8))):
            self.assert_wrong([self.rows[0][:2] + (table, 0)] + self.rows[1:])
            self.assert_wrong(self.rows[1:] + [self.rows[0][:2] + (table, 0)])
            self.assert_wrong([self.rows[0][:2] + (table, 0)])
        for table in (grid_of((6, 6)), grid_of((6,), (6,)), self.rows[0][2]):
            self.assert_wrong([self.rows[0], plain_row("C1", table, 1)])

    def test_the_whole_table_at_a_part(self):
        self.assert_wrong([self.rows[0], plain_row("C1", grid_of((6,), (8,)), 1)])

    def test_tables_that_fit_each_other_but_not_the_book(self):
        rows = [self.rows[0][:2] + (grid_of((5, 6), (7, 9)), 0), self.rows[1], self.rows[2],
                plain_row("C2", one_of(num(9)), 1)]
        self.assert_wrong(rows)


class KnotTest(CheckerCase):
    """A book with knots, by rounds."""

    contents = {"A1": "=B1+1", "B1": "=A1*2", "C1": "=A1+B1", "D1": "=D1+C1", "E1": "=1"}
    there = book(contents, rounds=2)
    knot = knot_row("A1 B1", "A1 B1", 0, [numbers(1, 0), numbers(1, 2)])
    rows = [knot, plain_row("C1", one_of(num(3)), 1), knot_row("D1", "D1", 2, [numbers(3), numbers(6)])]

    def with_field(self, field, thing, of=0):
        row = list(self.rows[of])
        row[field] = thing
        return self.rows[:of] + [tuple(row)] + self.rows[of + 1:]

    def test_right_ones(self):
        self.assert_right(self.rows)
        self.assert_right(self.rows[::-1])
        self.assert_right(self.rows[:1])
        self.assert_right(self.rows[:2])
        self.assert_right(self.rows + [plain_row("E1", one_of(num(1)), 0)])

    def test_without_rounds(self):
        self.there = book(self.contents)
        first, third = fault("ring", place("A1")), fault("ring", place("D1"))
        rows = [knot_row("A1 B1", "B1 A1", 0, []), plain_row("C1", one_of(first), 1), knot_row("D1", "D1", 2, [])]
        self.assert_right(rows)
        for value in (NONE, num(0), third, fault("ring", place("C1")), fault("ring", place("B1"))):
            self.assert_wrong([rows[0], plain_row("C1", one_of(value), 1)])
        for rounds in ([numbers(None, None)], [numbers(1, 0)], [[]], [numbers(1, 0), numbers(1, 2)],
                       [[one_of(first), one_of(fault("ring", place("B1")))]]):
            self.assert_wrong([rows[0][:4] + (rounds,)])

    def test_levels(self):
        for levels in ((0, 1, 2), (0, 5, 9), (4, 5, 6)):
            self.assert_right([row[:3] + (level,) + row[4:] for row, level in zip(self.rows, levels)])
        for levels in ((0, 0, 1), (1, 1, 2), (0, 1, 1), (0, 2, 1), (-1, 0, 1), (-1, 1, 2), (0, 1, 0), (2, 1, 2)):
            self.assert_wrong([row[:3] + (level,) + row[4:] for row, level in zip(self.rows, levels)])

    def test_rows_left_out_and_told_twice(self):
        self.assert_wrong(self.rows[1:])
        self.assert_wrong([self.rows[0], self.rows[2]])
        self.assert_wrong([self.rows[2]])
        self.assert_wrong(self.rows + [self.rows[0]])
        self.assert_wrong(self.rows + [self.rows[2]])
        self.assert_wrong(self.rows + [plain_row("A1", one_of(num(1)), 0)])
        self.assert_wrong([plain_row("B1", one_of(num(2)), 3)] + self.rows)

    def test_cells(self):
        for cells in ("", "A1", "B1", "B1 A1", "A1 A1 B1", "A1 B1 B1", "A1 B1 C1", "A1 B1 E1", "A1 B1 H16", "A1 A1"):
            self.assert_wrong(self.with_field(1, places(cells)))
            many = len(cells.split())
            rounds = [(told * 2)[:many] for told in self.knot[4]]
            self.assert_wrong([("knot", places(cells), places("A1 B1"), 0, rounds)])
            self.assert_wrong([("knot", places(cells), places(cells), 0, rounds)])
        self.assert_wrong([("knot", [("none", 1, 1)], [("none", 1, 1)], 0, [numbers(1), numbers(1)])])
        self.assert_wrong([knot_row("H16", "H16", 0, [numbers(None), numbers(None)])])

    def test_walks(self):
        for walk in ("A1 B1", "B1 A1", "A1 B1 A1 B1", "B1 A1 B1 A1 B1 A1"):
            self.assert_right(self.with_field(2, places(walk)))
        for walk in ("", "A1", "B1", "A1 A1", "A1 B1 A1", "A1 A1 B1", "A1 B1 C1", "C1 A1 B1", "A1 B1 E1", "A1 B1 H16",
                     "B1 A1 B1", "D1", "A1 B1 B1"):
            self.assert_wrong(self.with_field(2, places(walk)))
        self.assert_wrong(self.with_field(2, places("A1 B1") + [("none", 1, 1)]))
        self.assert_right(self.with_field(2, places("D1 D1 D1"), 2))
        self.assert_wrong(self.with_field(2, [], 2))
        self.assert_wrong(self.with_field(2, places("D1 C1"), 2))

    def test_walks_go_the_way_of_leanings(self):
        self.there = book({"A1": "=B1", "B1": "=C1", "C1": "=A1+C1+C2"}, rounds=1)
        for walk in ("A1 B1 C1", "C1 A1 B1", "B1 C1 A1", "A1 B1 C1 C1", "C1 C1 C1 A1 B1", "A1 B1 C1 A1 B1 C1"):
            self.assert_right([knot_row("A1 B1 C1", walk, 0, [numbers(None, None, 0)])])
        for walk in ("C1 B1 A1", "A1 C1 B1", "A1 B1", "B1 C1", "C1", "A1 B1 B1 C1", "A1 B1 C1 A1", "A1 B1 C1 C2",
                     "A1 A1 B1 C1", "C1 C1 A1"):
            self.assert_wrong([knot_row("A1 B1 C1", walk, 0, [numbers(None, None, 0)])])

    def test_rounds(self):
        for rounds in ([], [numbers(1, 0)], [numbers(1, 2)], [numbers(1, 0), numbers(1, 2), numbers(3, 2)],
                       [numbers(None, None), numbers(1, 0), numbers(1, 2)], [numbers(None, None), numbers(1, 0)],
                       [numbers(1, 2), numbers(1, 0)], [numbers(1, 0), numbers(1, 0)], [numbers(1, 0), []],
                       [[], []], [numbers(1, 0), numbers(1)], [numbers(1), numbers(1, 2)], [numbers(1), numbers(1)],
                       [numbers(1, 0), numbers(1, 2, 3)], [numbers(1, 0, 3), numbers(1, 2)],
                       [numbers(0, 1), numbers(2, 1)], [numbers(1, 0), numbers(1, 3)], [numbers(2, 0), numbers(1, 4)],
                       [numbers(1, 0), numbers(None, 2)], [numbers(1, 0), [one_of(num(1)), grid_of((2, 2))]],
                       [[one_of(num(1)), grid_of((0,), (0,))], numbers(1, 2)]):
            self.assert_wrong(self.with_field(4, rounds))
            self.assert_wrong([self.with_field(4, rounds)[0]])

    def test_by_what_the_paper_shows_of_others(self):
        self.assert_wrong(self.with_field(4, [numbers(4), numbers(8)], 2))
        self.assert_wrong(self.rows[:1] + [plain_row("C1", one_of(num(4)), 1),
                                           knot_row("D1", "D1", 2, [numbers(4), numbers(8)])])

    def test_a_knot_told_in_plain_rows(self):
        for levels in ((0, 0), (0, 1), (1, 0)):
            self.assert_wrong([plain_row("A1", one_of(num(1)), levels[0]), plain_row("B1", one_of(num(2)), levels[1])])
        self.there = book({"A1": "=A1"}, rounds=1)
        self.assert_wrong([plain_row("A1", one_of(NONE), 0)])
        self.assert_right([knot_row("A1", "A1", 0, [numbers(None)])])
        self.there = book({"A1": "=A1"})
        self.assert_wrong([plain_row("A1", one_of(fault("ring", place("A1"))), 0)])
        self.assert_right([knot_row("A1", "A1", 0, [])])

    def test_a_mover_of_no_knot_told_in_a_knot_row(self):
        for rounds in ([numbers(3), numbers(3)], [numbers(0), numbers(3)]):
            for walk in ("C1", "", "C1 C1"):
                self.assert_wrong([self.knot, knot_row("C1", walk, 1, rounds)])
        self.assert_wrong([knot_row("E1", "E1", 0, [numbers(1), numbers(1)])])

    def test_two_knots_told_as_one(self):
        self.there = book({"A1": "=B1+1", "B1": "=A1", "A2": "=B2+1", "B2": "=A2+A1"}, rounds=1)
        rows = [knot_row("A1 B1", "A1 B1", 0, [numbers(1, None)]), knot_row("A2 B2", "A2 B2", 1, [numbers(1, 1)])]
        self.assert_right(rows)
        for walk in ("A1 B1 A2 B2", "A2 B2 A1 B1", "A1 B1", "A2 B2", "A2 B2 A1 B1 A1"):
            for rounds in ([numbers(1, None, 1, 0)], [numbers(1, None, 1, 1)]):
                self.assert_wrong([knot_row("A1 B1 A2 B2", walk, 0, rounds)])

    def test_one_knot_told_as_two(self):
        self.there = book({"A1": "=B1+1", "B1": "=A1+A2", "A2": "=B2+1", "B2": "=A2+A1"}, rounds=1)
        self.assert_right([knot_row("A1 B1 A2 B2", "A1 B1 A2 B2", 0, [numbers(1, 0, 1, 0)])])
        for levels in ((0, 0), (0, 1), (1, 0)):
            self.assert_wrong([knot_row("A1 B1", "A1 B1", levels[0], [numbers(1, 0)]),
                               knot_row("A2 B2", "A2 B2", levels[1], [numbers(1, 0)])])
            self.assert_wrong([knot_row("A1 B1", "A1 B1", levels[0], [numbers(1, 1)]),
                               knot_row("A2 B2", "A2 B2", levels[1], [numbers(1, 1)])])
        self.assert_wrong([knot_row("A1 B1", "A1 B1", 0, [numbers(1, 0)])])

    def test_tables_and_parts_in_a_knot(self):
        self.there = book({"A1": "=grid(3;1;A2;1)"}, rounds=3)
        rounds = [[grid_of((0,), (1,), (2,)), one_of(NONE)], [grid_of((0,), (1,), (2,)), one_of(num(1))],
                  [grid_of((1,), (2,), (3,)), one_of(num(1))]]
        rows = [knot_row("A1 A2", "A2 A1", 0, rounds), plain_row("A3", one_of(num(3)), 1)]
        self.assert_right(rows)
        self.assert_right(rows[:1])
        self.assert_wrong(rows[1:])
        for value in (num(2), num(1), NONE):
            self.assert_wrong([rows[0], plain_row("A3", one_of(value), 1)])
        self.assert_wrong([rows[0], plain_row("A3", one_of(num(3)), 0)])
        for k, j, table in ((0, 1, one_of(num(1))), (1, 1, one_of(NONE)), (2, 1, one_of(num(2))),
                            (0, 0, one_of(num(0))), (2, 0, one_of(num(1))), (2, 0, grid_of((1, 2, 3))),
                            (2, 0, grid_of((1,), (2,))), (2, 0, grid_of((1,), (2,), (4,))),
                            (1, 0, grid_of((0,), (1,), (2,), (3,))), (2, 1, grid_of((1,), (2,), (3,)))):
            told = copy.deepcopy(rounds)
            told[k][j] = table
            self.assert_wrong([knot_row("A1 A2", "A1 A2", 0, told), rows[1]])

    def test_too_few_tables_of_a_knot_beside_a_part_of_it(self):
        self.there = book({"A1": "=grid(3;1;A2;1)"}, rounds=1)
        tables = [grid_of((0,), (1,), (2,)), one_of(NONE)]
        part = plain_row("A3", one_of(num(2)), 1)
        self.assert_right([knot_row("A1 A2", "A2 A1", 0, [tables]), part])
        for told in ([], tables[:1], tables[1:], tables[::-1], tables + tables[:1], tables[1:] + tables):
            self.assert_wrong([knot_row("A1 A2", "A2 A1", 0, [told]), part])
            self.assert_wrong([part, knot_row("A1 A2", "A2 A1", 0, [told])])
        self.assert_wrong([knot_row("A1 A2", "A2 A1", 0, []), part])

    def test_rings_at_each_place_of_the_shape(self):
        self.there = book({"A1": "=grid(3;1;A2;1)", "B1": "=A3"})
        anchor = one_of(fault("ring", place("A1")))
        knot = knot_row("A1 A2", "A2 A1", 0, [])
        self.assert_right([knot, plain_row("A3", anchor, 1), plain_row("B1", anchor, 2)])
        for cell in ("A2", "A3"):
            self.assert_wrong([knot, plain_row("A3", one_of(fault("ring", place(cell))), 1)])


class ChanceTest(CheckerCase):
    """Papers of books made by chance, spoiled by chance."""

    def test_spoiled_papers(self):
        chance = random.Random(36)
        told = collections.Counter()
        for k in range(500):
            self.there = some_knotty_book(chance) if k % 5 else book_of(*some_book(chance))
            shown = plain_shown(self.there, outer_of)
            cells = sorted(shown) if chance.random() < 0.5 else chance.sample(sorted(shown), min(3, len(shown)))
            paper = paper_of(self.there, cells, outer_of)
            self.assert_right(paper)
            for j in range(6):
                spoiled_paper = spoiled(chance, paper, self.there)
                right = self.answer(spoiled_paper)
                told[right, repr(spoiled_paper) == repr(paper)] += 1
                if right:
                    self.assert_shows(spoiled_paper, shown)
        # Enough of them are right and yet another paper, and enough are wrong.
        self.assertGreater(told[True, False], 200)
        self.assertGreater(told[False, False], 1000)
        self.assertEqual(told[False, True], 0)

    def test_papers_of_other_books(self):
        chance = random.Random(37)
        told = collections.Counter()
        for k in range(300):
            one = some_knotty_book(chance, 8)
            cells = dict(one[1])
            cells.pop(chance.choice(sorted(cells)))
            self.there = book_of(one[0], list(cells.items()), one[2], one[3], one[4])
            shown = plain_shown(self.there, outer_of)
            for cell in plain_meanings(one):
                paper = paper_of(one, [cell], outer_of)
                right = self.answer(paper)
                told[right] += 1
                if right:
                    self.assert_shows(paper, shown)
        self.assertGreater(min(told[True], told[False]), 100)

    def assert_shows(self, paper, shown):
        """Checks that a paper shows what the book does."""
        for row in paper:
            for cell in standing_in(row):
                self.assertTrue(same(shown_by(self.there, paper, cell), shown[cell]), (paper, cell))


class ShownByTest(unittest.TestCase):
    def test_each_cell_of_a_paper_and_cells_that_are_no_movers(self):
        for rounds in range(5):
            there = book(CONTENTS, rounds=rounds)
            shown = dict(all_shown(there, outer_of))
            paper = paper_of(there, sorted(shown), outer_of)
            before = repr((there, paper))
            for cell in cells_of_sheets(there):
                told = shown_by(there, paper, cell)
                self.assertTrue(same(told, shown.get(cell, NONE)), (rounds, cell_text(cell), told))
            self.assertEqual(repr((there, paper)), before)

    def test_by_hand(self):
        there = book({"A1": "5", "B1": "=grid(1;2;A1;1)", "D1": "=E1", "E1": "=D1+1", "F1": "=A1:A2+A1:B1"}, rounds=1)
        paper = [plain_row("B1", grid_of((5, 6)), 0), plain_row("C1", one_of(num(6)), 1),
                 knot_row("D1 E1", "D1 E1", 0, [numbers(None, 1)])]
        self.assertIs(lets_by(there, paper, outer_of), True)
        for cell, value in (("A1", num(5)), ("B1", num(5)), ("C1", num(6)), ("D1", NONE), ("E1", num(1)),
                            ("F1", fault("shape", place("F1"))), ("G1", NONE), ("side!A1", NONE)):
            self.assertTrue(same(shown_by(there, paper, place(cell)), value), cell)
        self.assertEqual(shown_by(there, paper, ("none", 1, 1)), NONE)

    def test_the_last_round_is_shown(self):
        there = book({"A1": "=A1+1", "B1": "=stack(B1;7)"}, rounds=3)
        paper = paper_of(there, [place("A1"), place("B2")], outer_of)
        self.assertEqual(shown_by(there, paper, place("A1")), num(3))
        self.assertEqual(shown_by(there, paper, place("B2")), num(7))

    def test_rings(self):
        there = book({"A1": "=grid(3;1;A2;1)"})
        paper = paper_of(there, [place("A3")], outer_of)
        for cell, ring in (("A1", "A1"), ("A2", "A2"), ("A3", "A1")):
            self.assertEqual(shown_by(there, paper, place(cell)), fault("ring", place(ring)))

    def test_of_no_movers_by_the_paper_of_none(self):
        there = book({"A1": "5", "B1": "'a", "C1": "=A1:A2+A1:B1", "D1": "=D1:E1", "E1": "no"})
        for cell in ("A1", "B1", "C1", "D1", "E1", "F1"):
            self.assertEqual(shown_by(there, [], place(cell)), shown_at(there, place(cell), outer_of))


if __name__ == "__main__":
    unittest.main()
