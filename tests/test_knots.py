"""Knots and their walks [19], and the levels of movers [20]."""

import copy
import random
import unittest

from freshsheet.books import book_of
from freshsheet.knots import knots_of, levels_of, walk_of
from freshsheet.leans import leans_on, movers_of
from freshsheet.places import cell_text
from plain import book, place, plain_meanings, some_book
from plainfresh import is_plain_walk, plain_knots, plain_leanings, plain_levels, some_knotty_book
from samples import same


def places(signs):
    """The list of the cells of texts with blanks between."""
    return [place(cell) for cell in signs.split()]


def near_names(many):
    """The texts of the first cells of a sheet, row by row."""
    return [f"{'ABCDEFGH'[k % 8]}{k // 8 + 1}" for k in range(many)]


def chain(many, end):
    """A book of a chain of cells, each leading to the next one, and the last one to an end."""
    names = near_names(many)
    return book({name: "=" + behind for name, behind in zip(names, names[1:] + [end])})


RINGS = [
    ("a cell that leans on itself", {"B2": "=B2"}, ["B2"]),
    ("one in its own column", {"B2": "=sum(B:B)+1", "B3": "7"}, ["B2"]),
    ("one in its own range of one", {"H16": "=sum(H16:H16)"}, ["H16"]),
    ("one over its own sheet's name", {"side!A1": "=side!A1*2"}, ["side!A1"]),
    ("two by themselves", {"A1": "=A1", "B1": "=B1"}, ["A1", "B1"]),
    ("a ring of two", {"A1": "=B1", "B1": "=A1+1"}, ["A1 B1"]),
    ("a ring of two, one of which leans on itself", {"A1": "=B1+A1", "B1": "=A1+1"}, ["A1 B1"]),
    ("a ring of three", {"C1": "=A2", "A2": "=B10", "B10": "=-C1"}, ["C1 A2 B10"]),
    ("two rings", {"A1": "=B1", "B1": "=A1", "A2": "=B2", "B2": "=A2"}, ["A1 B1", "A2 B2"]),
    ("two rings with a cell in common", {"A1": "=B1+C1", "B1": "=A1", "C1": "=A1"}, ["A1 B1 C1"]),
    ("longer ones", {"A1": "=B1", "B1": "=C1", "C1": "=A1+D1", "D1": "=E1", "E1": "=C1"}, ["A1 B1 C1 D1 E1"]),
    ("two rings with one way between", {"A1": "=B1+A2", "B1": "=A1", "A2": "=B2", "B2": "=A2"}, ["A1 B1", "A2 B2"]),
    ("two rings with a cell between", {"A1": "=A2", "A2": "=A1+A3", "A3": "=A4", "A4": "=A5", "A5": "=A4"},
     ["A1 A2", "A4 A5"]),
    ("what leans on a ring and what it leans on", {"A1": "=B1+1", "B1": "=C1+D1", "C1": "=B1", "D1": "=E1", "E1": "7"},
     ["B1 C1"]),
    ("through a range", {"A1": "=sum(B1:C3)", "C2": "=A1", "C3": "=A5"}, ["A1 C2"]),
    ("through columns", {"A1": "=sum(B:C)", "C16": "=count(A:A)", "D1": "=A1"}, ["A1 C16"]),
    ("through a sumif and a find", {"A1": "=sumif(B1:B2;<;1;C1:C2)", "C2": "=find(1;A1:B3;1)"}, ["A1 C2"]),
    ("through a part not chosen", {"A1": "=if(yes;1;A1)"}, ["A1"]),
    ("through a part of its own", {"B1": "=grid(2;1;B2;1)"}, ["B1 B2"]),
    ("through some of its parts", {"B1": "=grid(2;3;sum(C1:D1);1)"}, ["B1 C1 D1"]),
    ("on itself, with parts beside", {"B1": "=stack(B1;1)"}, ["B1"]),
    ("through a part and its anchor", {"A1": "=C2+1", "C1": "=grid(3;1;A1;1)"}, ["A1 C1 C2"]),
    ("through an anchor alone", {"A1": "=C1", "C1": "=grid(3;1;A1;1)"}, ["A1 C1"]),
    ("through two anchors' parts", {"A1": "=stack(C2;1)", "C1": "=turn(A2:B2)"}, ["A1 C1 A2 C2"]),
    ("through a part and an anchor", {"A1": "=stack(C1;1)", "C1": "=turn(A2:A3)", "E1": "=D1"}, ["A1 C1 A2"]),
    ("over two sheets", {"A1": "=side!A1", "side!A1": "=main!A1"}, ["A1 side!A1"]),
    ("over two sheets, through a part", {"A1": "=grid(1;2;side!H16;1)", "side!H16": "=main!B1"}, ["A1 B1 side!H16"]),
    ("on a sheet ahead by its name", {"B1": "=B1", "A2": "=A2", "a!C9": "=C9", "side!A1": "=A1"},
     ["a!C9", "B1", "A2", "side!A1"]),
]
NO_RINGS = [
    ("an empty book", {}),
    ("values", {"A1": "5", "B1": "'a", "C1": "no"}),
    ("formulas that lean on nothing", {"A1": "=1", "B1": "=#", "C1": "=lost", "D1": "=none!A1"}),
    ("a chain", {"A1": "=B1", "B1": "=C1", "C1": "=D1"}),
    ("a cell reached by two ways", {"A1": "=B1+C1", "B1": "=D1", "C1": "=D1", "D1": "=1"}),
    ("a range that ends ahead of its cell", {"A5": "=sum(A1:A4)+sum(A6:H16)", "A4": "=sum(A1:A3)"}),
    ("bad by shape", {"A1": "=A1:A2+A1:B1"}),
    ("bad by blocked", {"A1": "=A1:B1", "B1": "7", "D1": "=stack(D1;D1)", "D2": "=D1"}),
    ("over a bad one", {"A1": "=B1", "B1": "=stack(A1;A1)", "B2": "7"}),
    ("the same place on another sheet", {"A1": "=side!A1", "side!A1": "=B1"}),
    ("parts on which nothing leans", {"A1": "=grid(4;4;H1;1)", "H1": "=H2"}),
    ("parts beside", {"A1": "=grid(2;1;1;1)", "B1": "=A2", "C1": "=turn(A1:A2)"}),
]


class KnotsTest(unittest.TestCase):
    def assert_knots(self, there, knots, why=None):
        told = knots_of(there)
        self.assertTrue(same(told, [places(knot) for knot in knots]), (why, told))
        for knot in told:
            self.assert_walk(there, knot)

    def assert_walk(self, there, knot):
        """Checks a walk step by step."""
        walk = walk_of(there, list(knot))
        self.assertIs(type(walk), list)
        self.assertEqual(sorted(set(walk)), knot)
        for cell, behind in zip(walk, walk[1:] + walk[:1]):
            self.assertIn(behind, leans_on(there, cell))

    def test_no_knots(self):
        for why, contents in NO_RINGS:
            self.assert_knots(book(contents), [], why)

    def test_rings(self):
        for why, contents, knots in RINGS:
            for rounds in (0, 3):
                self.assert_knots(book(contents, sheets=("side", "main", "a"), rounds=rounds), knots, why)

    def test_through_names_and_own_functions(self):
        names = {"one": "main!B1+1", "two": "one", "area": "main!A1:A3"}
        owns = {"twice": (1, "?0+?0"), "zero": (0, "main!A1"), "first": (2, "?0")}
        for contents, knots in (({"A1": "=one", "B1": "=A1"}, ["A1 B1"]), ({"A1": "=two", "B1": "=A1"}, ["A1 B1"]),
                                ({"A1": "=one", "B1": "=1"}, []), ({"A2": "=sum(area)"}, ["A2"]),
                                ({"A1": "=twice(A1)"}, ["A1"]), ({"A1": "=twice(B1)", "B1": "=twice(A1)"}, ["A1 B1"]),
                                ({"A1": "=zero()"}, ["A1"]), ({"side!A1": "=zero()", "A1": "=side!A1"}, ["A1 side!A1"]),
                                ({"A1": "=first(A1;1)"}, ["A1"]), ({"A1": "=first(1;A1)"}, []),
                                ({"A1": "=zero(1)"}, []), ({"A1": "=lost(A1)"}, [])):
            self.assert_knots(book(contents, names, owns), knots, contents)

    def test_names_that_go_round_make_no_knot(self):
        there = book({"A1": "=one"}, {"one": "two+main!B1", "two": "one+main!C1"})
        self.assert_knots(there, [])

    def test_long_rings(self):
        names = near_names(60)
        for many in (2, 3, 17, 60):
            there = chain(many, "A1")
            self.assert_knots(there, [" ".join(names[:many])])
            self.assert_knots(chain(many, "H16"), [])
            self.assert_knots(chain(many, names[many // 2]), [" ".join(names[many // 2:many])])

    def test_long_ways_there_and_back(self):
        names = near_names(60)
        contents = {name: f"={one}+{other}" for one, name, other in
                    zip(["H16"] + names, names, names[1:] + ["H16"])}
        self.assert_knots(book(contents), [" ".join(names)])

    def test_as_many_cells_as_there_are(self):
        every = "+".join(f"sum({sheet}!A:H)" for sheet in ("main", "side", "c", "d"))
        contents = {sheet + "!A1": f"=grid(16;8;{every};1)" for sheet in ("main", "side", "c", "d")}
        there = book(contents, sheets=("main", "side", "c", "d"))
        self.assertEqual(knots_of(there), [movers_of(there)])
        self.assertEqual(len(movers_of(there)), 512)
        meanings = plain_meanings(there)
        self.assertTrue(is_plain_walk(walk_of(there, movers_of(there)), movers_of(there), plain_leanings(meanings)))

    def test_each_part_needs_its_own_way_round(self):
        contents = {"A3": "=grid(14;8;side!A1;1)", "A1": "=sum(A3:H16)"}
        names = near_names(50)
        contents.update({"side!" + name: "=" + behind for name, behind in zip(names, names[1:] + ["main!A1"])})
        there = book(contents)
        self.assertEqual(knots_of(there), [movers_of(there)])
        self.assert_walk(there, movers_of(there))

    def test_what_is_told_is_the_askers_own(self):
        there = book({"A1": "=B1", "B1": "=A1", "C1": "=C1"})
        before = repr(there)
        told = knots_of(there)
        walk = walk_of(there, told[0])
        wanted = repr((told, walk))
        self.assertEqual(repr(told), repr([places("A1 B1"), places("C1")]))
        for thing in (walk, told[0], told[1], told):
            thing.clear()
        self.assertEqual(repr((knots_of(there), walk_of(there, knots_of(there)[0]))), wanted)
        levels = levels_of(there)
        levels.clear()
        self.assertEqual(len(levels_of(there)), 3)
        self.assertEqual(repr(there), before)

    def test_the_knot_handed_in_stays(self):
        there = book({"A1": "=B1+C1", "B1": "=A1", "C1": "=A1"})
        knot = places("A1 B1 C1")
        walk = walk_of(there, knot)
        self.assertEqual(knot, places("A1 B1 C1"))
        knot.clear()
        self.assertEqual(sorted(set(walk)), places("A1 B1 C1"))

    def test_books_made_by_chance(self):
        chance = random.Random(31)
        for k in range(500):
            there = some_knotty_book(chance) if k % 4 else book_of(*some_book(chance))
            meanings = plain_meanings(there)
            told = knots_of(there)
            self.assertTrue(same(told, [list(knot) for knot in plain_knots(meanings)]), there)
            leanings = plain_leanings(meanings)
            for knot in told:
                self.assertTrue(is_plain_walk(walk_of(there, copy.copy(knot)), knot, leanings), there)


class LevelsTest(unittest.TestCase):
    def assert_levels(self, there, *levels):
        """Checks the levels, told from 0 on as texts of cells."""
        wanted = sorted((cell, level) for level, cells in enumerate(levels) for cell in places(cells))
        told = levels_of(there)
        self.assertTrue(same(told, wanted), [(cell_text(cell), level) for cell, level in told])

    def test_no_movers(self):
        self.assert_levels(book({}))
        self.assert_levels(book({"A1": "5", "B1": "=A1:A2+A1:B1", "C1": "=C1:D1", "D1": "7"}))

    def test_chains(self):
        self.assert_levels(book({"A1": "=B1", "B1": "=C1", "C1": "=1"}), "C1", "B1", "A1")
        self.assert_levels(book({"C1": "=B1", "B1": "=A1", "A1": "5"}), "B1", "C1")
        names = near_names(60)
        self.assert_levels(chain(60, "H16"), *reversed(names))

    def test_on_values_empty_and_bad_cells_alone(self):
        there = book({"A1": "5", "B1": "=A1:A2+A1:B1", "C1": "=C1:D1", "D1": "7", "A2": "=A1", "B2": "=B1", "C2": "=C1",
                      "D2": "=H16", "E2": "=1", "F2": "=#", "G2": "=none!A1+A1", "H2": "=sum(A1:D1)"})
        self.assert_levels(there, "A2 B2 C2 D2 E2 F2 G2 H2")

    def test_above_the_greatest(self):
        there = book({"A1": "=1", "B1": "=A1", "C1": "=B1", "D1": "=A1+C1", "E1": "=C1+A1", "F1": "=sum(A1:E1)",
                      "G1": "=A1+A1", "side!A1": "=main!F1"})
        self.assert_levels(there, "A1", "B1 G1", "C1", "D1 E1", "F1", "side!A1")

    def test_parts_stand_above_their_anchor(self):
        there = book({"B1": "=grid(2;2;1;1)", "A1": "=B1", "A2": "=B2", "A3": "=sum(A1:C2)"})
        self.assert_levels(there, "B1", "A1 C1 B2 C2", "A2", "A3")

    def test_knots_lean_on_movers_and_movers_on_knots(self):
        self.assert_levels(book({"A1": "=A1"}), "A1")
        there = book({"A1": "=1", "B1": "=A1", "C1": "=D1+A1", "D1": "=E1", "E1": "=C1+B1", "F1": "=D1", "G1": "=F1+C1",
                      "H1": "=C1"})
        self.assert_levels(there, "A1", "B1", "C1 D1 E1", "F1 H1", "G1")

    def test_knots_above_knots(self):
        there = book({"A1": "=B1+A2", "B1": "=A1", "A2": "=B2", "B2": "=A2+A3", "A3": "=A3", "A4": "=A4+B1+A3"})
        self.assert_levels(there, "A3", "A2 B2", "A1 B1", "A4")

    def test_parts_in_a_knot_and_beside(self):
        there = book({"A1": "=C2+H1", "C1": "=grid(3;1;A1;1)", "B1": "=C1", "B3": "=C3", "H1": "=1"})
        self.assert_levels(there, "H1", "A1 C1 C2", "B1 C3", "B3")

    def test_books_made_by_chance(self):
        chance = random.Random(32)
        for k in range(500):
            there = some_knotty_book(chance) if k % 4 else book_of(*some_book(chance))
            self.assertTrue(same(levels_of(there), sorted(plain_levels(plain_meanings(there)).items())), there)


if __name__ == "__main__":
    unittest.main()
