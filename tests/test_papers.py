"""The paper that is told of a book and a list of its cells [23]."""

import random
import unittest

from freshsheet.books import book_of
from freshsheet.checker import lets_by, shown_by
from freshsheet.leans import movers_of
from freshsheet.papers import paper_of
from freshsheet.values import is_value
from plain import NONE, book, cells_of_sheets, fault, num, one_of, place, plain_meanings, some_book
from plainfresh import (outer_of, plain_lets_by, plain_leanings, plain_levels, plain_shown, plain_ways,
                        some_knotty_book, standing_in)
from samples import same


def refuse(value):
    """An outer function that may not be asked."""
    raise AssertionError(value)


def places(signs):
    return [place(cell) for cell in signs.split()]


class PaperTest(unittest.TestCase):
    def assert_form(self, paper):
        """Checks the kinds of all things in a paper."""
        self.assertIs(type(paper), list)
        for row in paper:
            self.assertIs(type(row), tuple)
            self.assertEqual(len(row), {"plain": 4, "knot": 5}[row[0]])
            self.assertIs(type(row[3]), int)
            self.assertTrue(row[0] == "plain" or [type(thing) for thing in row] == [str, list, list, int, list])
            rounds = [[row[2]]] if row[0] == "plain" else row[4]
            for tables in rounds:
                self.assertIs(type(tables), list)
                for table in tables:
                    self.assertIs(type(table), tuple)
                    self.assertTrue(all(type(line) is tuple and all(map(is_value, line)) for line in table))

    def assert_paper(self, there, cells, outer=outer_of):
        """Checks that a paper is let by, has just the cells that it should have, and shows what the book shows."""
        before = repr((there, cells))
        paper = paper_of(there, cells, outer)
        self.assertEqual(repr((there, cells)), before)
        self.assert_form(paper)
        self.assertIs(lets_by(there, paper, outer), True)
        self.assertIs(plain_lets_by(there, paper, outer), True)
        ways = plain_ways(plain_leanings(plain_meanings(there)))
        asked = {cell for cell in cells if cell in ways}
        standing = [cell for row in paper for cell in standing_in(row)]
        self.assertEqual(sorted(standing), sorted(asked.union(*[ways[cell] for cell in asked])))
        shown = plain_shown(there, outer)
        for cell in standing + list(cells):
            self.assertTrue(same(shown_by(there, paper, cell), shown.get(cell, NONE)), (there, cell))
        return paper

    def test_no_cells(self):
        for there in (book({}), book({"A1": "=B1", "B1": "=A1"})):
            self.assertEqual(self.assert_paper(there, [], refuse), [])

    def test_cells_that_are_no_movers(self):
        there = book({"A1": "5", "B1": "=A1:A2+A1:B1", "C1": "=C1:D1", "D1": "'a", "E1": "=E1"})
        self.assertEqual(self.assert_paper(there, places("A1 B1 C1 D1 H16 side!A1"), refuse), [])
        self.assertEqual(paper_of(there, [("none", 1, 1)], refuse), [])
        self.assertEqual(len(self.assert_paper(there, places("A1 E1 B1"), refuse)), 1)

    def test_a_chain(self):
        there = book({"A1": "5", "B1": "=A1+1", "C1": "=B1+1", "D1": "=C1+1", "E1": "=B1"})
        for cells, many in (("B1", 1), ("C1", 2), ("D1", 3), ("D1 E1", 4), ("B1 C1 D1 E1", 4), ("E1 A1", 2)):
            self.assertEqual(len(self.assert_paper(there, places(cells), refuse)), many)
        self.assertEqual(paper_of(there, places("B1"), refuse), [("plain", place("B1"), one_of(num(6)), 0)])

    def test_the_same_cell_twice(self):
        there = book({"B1": "=1", "C1": "=B1+1", "D1": "=E1", "E1": "=D1"}, rounds=1)
        for cells in ("C1 C1", "C1 B1 C1 B1 B1", "D1 E1 D1", "A1 A1"):
            paper = self.assert_paper(there, places(cells))
            self.assertEqual(sorted(paper), sorted(paper_of(there, sorted(set(places(cells))), outer_of)))

    def test_parts_and_anchors(self):
        there = book({"A1": "=grid(3;1;D1;1)", "D1": "=H16", "C1": "=A3"})
        for cells, wanted in (("A1", "A1 D1"), ("A3", "A1 D1 A3"), ("C1", "A1 C1 D1 A3"), ("A2 A3", "A1 D1 A2 A3")):
            paper = self.assert_paper(there, places(cells), refuse)
            self.assertEqual(sorted(cell for row in paper for cell in standing_in(row)), places(wanted))

    def test_knots(self):
        contents = {"A1": "=B1+1", "B1": "=A1*2", "C1": "=A1+B1", "D1": "=D1+C1", "E1": "=1", "F1": "=grid(2;1;F2;D1)"}
        for rounds in range(5):
            there = book(contents, rounds=rounds)
            for cells in ("A1", "B1", "C1", "D1", "E1", "F1", "F2", "E1 A1", "A1 B1 C1 D1 E1 F1 F2"):
                paper = self.assert_paper(there, places(cells), refuse)
                knots = [row for row in paper if row[0] == "knot"]
                self.assertTrue(all(len(row[4]) == rounds for row in knots))
            self.assertEqual(len(paper), 5)
            self.assertEqual(len(knots), 3)

    def test_by_hand(self):
        there = book({"A1": "=B1+1", "B1": "=A1*2", "C1": "=A1"}, rounds=1)
        self.assertEqual([row for row in self.assert_paper(there, places("C1")) if row[0] == "plain"],
                         [("plain", place("C1"), one_of(num(1)), 1)])
        knot = [row for row in paper_of(there, places("C1"), refuse) if row[0] == "knot"][0]
        self.assertEqual((knot[1], knot[3:]), (places("A1 B1"), (0, [[one_of(num(1)), one_of(num(0))]])))
        there = book({"A1": "=A1"})
        self.assertEqual(paper_of(there, places("A1"), refuse)[0][:2], ("knot", places("A1")))
        self.assertEqual(paper_of(there, places("A1"), refuse)[0][3:], (0, []))

    def test_outer(self):
        there = book({"A1": "=outer(5)", "B1": "=outer(A1)", "C1": "=outer(1/0)", "D1": "=outer(D1)+C2"}, rounds=2)
        self.assert_paper(there, places("B1 C1 D1"))
        self.assertEqual(shown_by(there, paper_of(there, places("B1"), outer_of), place("B1")), num(7))
        self.assertEqual(shown_by(there, paper_of(there, places("C1"), refuse), place("C1")),
                         fault("nought", place("C1")))

    def test_every_cell_of_a_great_book(self):
        every = "+".join(f"sum({sheet}!A:H)" for sheet in ("main", "side", "c", "d"))
        contents = {sheet + "!A1": f"=grid(16;8;{every};1)" for sheet in ("side", "c", "d")}
        contents.update({f"A{row}": f"=sum(A{row + 1}:A16)+1" for row in range(1, 16)})
        there = book(contents, sheets=("main", "side", "c", "d"), rounds=1)
        paper = paper_of(there, cells_of_sheets(there), refuse)
        self.assertIs(lets_by(there, paper, refuse), True)
        self.assertEqual(sum(len(standing_in(row)) for row in paper), len(movers_of(there)))

    def test_what_is_told_is_the_askers_own(self):
        there = book({"A1": "=B1+1", "B1": "=A1*2", "C1": "=A1"}, rounds=2)
        cells = places("C1 B1")
        paper = paper_of(there, cells, refuse)
        wanted = repr(paper)
        cells.clear()
        self.assertEqual(repr(paper), wanted)
        for row in paper:
            for thing in row:
                if isinstance(thing, list):
                    for inner in thing:
                        if isinstance(inner, list):
                            inner.clear()
                    thing.clear()
        paper.clear()
        self.assertEqual(repr(paper_of(there, places("C1 B1"), refuse)), wanted)

    def test_changed_papers_change_no_later_answer(self):
        there = book({"A1": "=B1+1", "B1": "=A1*2", "C1": "=A1"}, rounds=2)
        paper = paper_of(there, places("C1"), refuse)
        self.assertIs(lets_by(there, paper, refuse), True)
        knot = [row for row in paper if row[0] == "knot"][0]
        knot[2].append(place("C1"))
        self.assertIs(lets_by(there, paper, refuse), False)
        knot[2].pop()
        self.assertIs(lets_by(there, paper, refuse), True)
        knot[4][1][0] = one_of(num(9))
        self.assertIs(lets_by(there, paper, refuse), False)

    def test_drawn_cells_of_drawn_books(self):
        chance = random.Random(38)
        for k in range(300):
            there = some_knotty_book(chance) if k % 4 else book_of(*some_book(chance))
            movers = movers_of(there)
            cells = chance.sample(cells_of_sheets(there), chance.randint(0, 3))
            cells += [chance.choice(movers) for j in range(chance.randint(0, 4)) if movers]
            chance.shuffle(cells)
            paper = self.assert_paper(there, cells)
            self.assertEqual(repr(paper_of(there, cells, outer_of)), repr(paper))
            levels = plain_levels(plain_meanings(there))
            # Levels may be greater, but there is no call for it.
            for row in paper:
                self.assertEqual({levels[cell] for cell in standing_in(row)}, {row[3]})


if __name__ == "__main__":
    unittest.main()
