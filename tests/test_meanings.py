"""What a cell means in a book [15], and how names and own functions show there [13] [31]."""

import random
import unittest

from freshsheet.books import book_of, content_at, meaning_of, meanings_of
from freshsheet.formulas import count_parts
from freshsheet.openings import open_up
from freshsheet.shapes import shape_of
from plain import YES, book, cells_of_sheets, num, place, plain_meanings, some_book, text
from samples import same

EMPTY = ("empty",)
SHAPE = ("bad", "shape")
BLOCKED = ("bad", "blocked")


class MeaningsTest(unittest.TestCase):
    def assert_meanings(self, there, wanted):
        """Checks what all cells mean; wanted has cells as texts, and of formulas their shapes alone."""
        told = {}
        for cell, signs in wanted.items():
            cell = place(cell)
            if isinstance(signs[0], int):
                opened = open_up(there, cell[0], content_at(there, cell)[1])
                signs = ("formula", opened, signs)
            if signs[0] == "part":
                signs = ("part", place(signs[1])) + signs[2:]
            told[cell] = signs
        self.assertTrue(same(meanings_of(there), sorted(told.items(), key=lambda pair: pair[0])), meanings_of(there))
        for cell in cells_of_sheets(there):
            self.assertTrue(same(meaning_of(there, cell), told.get(cell, EMPTY)), cell)
        self.assertEqual(plain_meanings(there), told)

    def test_an_empty_book(self):
        self.assert_meanings(book({}), {})

    def test_values(self):
        self.assert_meanings(book({"A1": "5/2", "H16": "'a b", "side!C3": "yes"}),
                             {"A1": ("value", num(5, 2)), "H16": ("value", text("a b")), "side!C3": ("value", YES)})

    def test_formulas_of_a_single_value(self):
        self.assert_meanings(book({"A1": "=B1+1", "B1": "=sum(A:H)", "C1": "=#", "D1": "=lost", "E1": "=none!A1:B2",
                                   "F1": "=C1:C1", "G1": "=grid(1;1;1;1)", "H16": "=A1"}),
                             dict.fromkeys(["A1", "B1", "C1", "D1", "E1", "F1", "G1", "H16"], (1, 1)))

    def test_what_a_formula_is_opened_to(self):
        there = book({"A1": "=B1+a*twice(C$1)", "side!A1": "=B1+lost"}, {"a": "side!B:B"}, {"twice": (1, "?0+?0")})
        self.assertEqual(meaning_of(there, ("main", 1, 1)),
                         ("formula", ("op", "+", ("cell", "main", (1, 2, False, False)),
                                      ("op", "*", ("range", "side", (1, 2, True, False), (16, 2, True, False)),
                                       ("op", "+", ("cell", "main", (1, 3, True, False)),
                                        ("cell", "main", (1, 3, True, False))))), (16, 1)))
        self.assertEqual(meaning_of(there, ("side", 1, 1)),
                         ("formula", ("op", "+", ("cell", "side", (1, 2, False, False)), ("fault", "name")), (1, 1)))
        self.assertEqual(meaning_of(there, ("main", 16, 1)), ("part", ("main", 1, 1), 15, 0))

    def test_too_great_a_formula_shows_in_one_cell(self):
        sums = "+".join(["a"] * 7)
        there = book({"A1": "=a", "B1": "=" + "+".join(["b"] * 5), "B2": "1"},
                     {"a": "main!A1:B2", "b": sums, "c": sums.replace("a", "b")})
        self.assertEqual(count_parts(open_up(there, "main", ("name", "c"))), 97)
        self.assert_meanings(there, {"A1": BLOCKED, "B1": BLOCKED, "B2": ("value", num(1))})
        there = book({"B1": "=c+c+c", "B2": "1"}, {"a": "main!A1:B2", "b": sums, "c": sums.replace("a", "b")})
        self.assertEqual(meaning_of(there, ("main", 1, 2)), ("formula", ("fault", "great"), (1, 1)))

    def test_bad_by_shape(self):
        self.assert_meanings(book({"A1": "=A1:A2+A1:B1", "B2": "=outer(A1:A2)", "C3": "=sum(A1:A2&A1:B1)",
                                   "D4": "=if(A1:A2;1;2)"}), {"A1": SHAPE, "B2": SHAPE, "C3": SHAPE, "D4": SHAPE})

    def test_what_is_bad_by_shape_blocks_no_area_but_by_its_cell(self):
        self.assert_meanings(book({"A1": "=A1:A2+A1:B1", "B1": "=grid(1;2;1;1)", "A2": "=grid(2;1;1;1)"}),
                             {"A1": SHAPE, "B1": (1, 2), "C1": ("part", "B1", 0, 1), "A2": (2, 1),
                              "A3": ("part", "A2", 1, 0)})
        self.assert_meanings(book({"B2": "=A1:A2+A1:B1", "B1": "=grid(2;1;1;1)"}), {"B2": SHAPE, "B1": BLOCKED})

    def test_parts(self):
        self.assert_meanings(book({"B3": "=grid(2;3;1;1)"}),
                             {"B3": (2, 3), "C3": ("part", "B3", 0, 1), "D3": ("part", "B3", 0, 2),
                              "B4": ("part", "B3", 1, 0), "C4": ("part", "B3", 1, 1), "D4": ("part", "B3", 1, 2)})
        self.assert_meanings(book({"A1": "=turn(E1:F1)", "B1": "=G1:H1", "B2": "3"}),
                             {"A1": (2, 1), "A2": ("part", "A1", 1, 0), "B1": (1, 2), "C1": ("part", "B1", 0, 1),
                              "B2": ("value", num(3))})

    def test_an_area_over_itself(self):
        self.assert_meanings(book({"A1": "=A1:B2"}),
                             {"A1": (2, 2), "B1": ("part", "A1", 0, 1), "A2": ("part", "A1", 1, 0),
                              "B2": ("part", "A1", 1, 1)})

    def test_an_area_over_the_whole_sheet(self):
        told = meanings_of(book({"A1": "=side!A:H"}))
        self.assertEqual([cell for cell, meaning in told],
                         [("main", row, column) for row in range(1, 17) for column in range(1, 9)])
        self.assertEqual(told[-1][1], ("part", ("main", 1, 1), 15, 7))
        self.assertEqual(told[0][1][2], (16, 8))

    def test_an_area_to_the_ends_of_the_sheet(self):
        self.assert_meanings(book({"G15": "=grid(2;2;1;1)"}),
                             {"G15": (2, 2), "H15": ("part", "G15", 0, 1), "G16": ("part", "G15", 1, 0),
                              "H16": ("part", "G15", 1, 1)})

    def test_an_area_that_leaves_the_sheet(self):
        for cell, signs in (("A16", "=grid(2;1;1;1)"), ("H1", "=grid(1;2;1;1)"), ("H16", "=grid(2;2;1;1)"),
                            ("B1", "=side!A:H"), ("A2", "=side!A:A"), ("G1", "=turn(A1:A3)"),
                            ("A1", "=stack(side!A:A;1)"), ("A1", "=turn(stack(A1:A8;A1))")):
            self.assert_meanings(book({cell: signs}), {cell: BLOCKED})

    def test_an_area_with_another_content(self):
        for signs in ("7", "'a", "no", "=1", "=#", "=A1:A2+A1:B1", "='a'".replace("'", '"')):
            for cell in ("C3", "D3", "B4", "C4", "D4"):
                there = book({"B3": "=grid(2;3;1;1)", cell: signs})
                told = dict(meanings_of(there))
                self.assertEqual(len(told), 2)
                self.assertEqual(told[("main", 3, 2)], BLOCKED)
            for cell in ("A2", "B2", "D2", "E2", "A3", "E3", "A4", "E4", "E5", "B5", "side!C3"):
                there = book({"B3": "=grid(2;3;1;1)", cell: signs})
                self.assertEqual(meaning_of(there, ("main", 3, 2))[0], "formula")
                self.assertEqual(meaning_of(there, ("main", 4, 4)), ("part", ("main", 3, 2), 1, 2))

    def test_areas_that_meet(self):
        self.assert_meanings(book({"A1": "=grid(1;3;1;1)", "C2": "=grid(2;1;1;1)"}),
                             {"A1": (1, 3), "B1": ("part", "A1", 0, 1), "C1": ("part", "A1", 0, 2), "C2": (2, 1),
                              "C3": ("part", "C2", 1, 0)})
        self.assert_meanings(book({"A2": "=grid(1;3;1;1)", "C1": "=grid(2;1;1;1)"}), {"A2": BLOCKED, "C1": BLOCKED})
        self.assert_meanings(book({"A1": "=grid(2;2;1;1)", "B2": "=grid(2;2;1;1)"}), {"A1": BLOCKED, "B2": BLOCKED})
        # The area with the other's cell is blocked by it; the other one by the area that it meets.
        self.assert_meanings(book({"A1": "=grid(1;3;1;1)", "B1": "=grid(2;1;1;1)"}), {"A1": BLOCKED, "B1": BLOCKED})
        self.assert_meanings(book({"A1": "=grid(3;1;1;1)", "side!A2": "=grid(2;1;1;1)"}),
                             {"A1": (3, 1), "A2": ("part", "A1", 1, 0), "A3": ("part", "A1", 2, 0), "side!A2": (2, 1),
                              "side!A3": ("part", "side!A2", 1, 0)})

    def test_what_is_blocked_blocks(self):
        # A1 is blocked by the content of C1; C3 meets its area, and E3 that of C3.
        self.assert_meanings(book({"A1": "=grid(3;3;1;1)", "C1": "1", "C3": "=grid(1;3;1;1)", "E3": "=grid(1;2;1;1)",
                                   "G3": "=grid(1;2;1;1)"}),
                             {"A1": BLOCKED, "C1": ("value", num(1)), "C3": BLOCKED, "E3": BLOCKED, "G3": (1, 2),
                              "H3": ("part", "G3", 0, 1)})

    def test_a_single_value_in_an_area_is_not_blocked(self):
        self.assert_meanings(book({"A1": "=grid(2;2;1;1)", "B2": "=A1", "A2": "=grid(1;1;1;1)"}),
                             {"A1": BLOCKED, "B2": (1, 1), "A2": (1, 1)})

    def test_an_area_that_leaves_the_sheet_meets_others_on_it(self):
        self.assert_meanings(book({"A15": "=grid(3;2;1;1)", "B14": "=grid(2;1;1;1)"}), {"A15": BLOCKED, "B14": BLOCKED})
        self.assert_meanings(book({"A15": "=grid(3;2;1;1)", "B13": "=grid(2;1;1;1)", "C16": "=grid(1;2;1;1)"}),
                             {"A15": BLOCKED, "B13": (2, 1), "B14": ("part", "B13", 1, 0), "C16": (1, 2),
                              "D16": ("part", "C16", 0, 1)})
        self.assert_meanings(book({"F1": "=side!A:H", "H15": "=grid(1;2;1;1)", "E16": "=grid(1;2;1;1)",
                                   "E15": "=grid(2;1;1;1)", "D1": "=grid(1;2;1;1)"}),
                             {"F1": BLOCKED, "H15": BLOCKED, "E16": BLOCKED, "E15": BLOCKED, "D1": (1, 2),
                              "E1": ("part", "D1", 0, 1)})

    def test_two_that_leave_the_sheet_and_would_meet_off_it(self):
        self.assert_meanings(book({"G16": "=grid(2;1;1;1)", "H15": "=grid(1;2;1;1)", "H16": "=1"}),
                             {"G16": BLOCKED, "H15": BLOCKED, "H16": (1, 1)})
        self.assert_meanings(book({"A16": "=turn(A1:A3)", "C16": "=1", "D16": "=grid(2;2;1;1)"}),
                             {"A16": BLOCKED, "C16": (1, 1), "D16": BLOCKED})

    def test_areas_of_great_shapes(self):
        high = "stack(stack(side!A:B;side!A:B);side!A:B)"
        self.assert_meanings(book({"C2": f"={high}", "D16": "=grid(1;2;1;1)", "E2": "=grid(15;1;1;1)"}),
                             {"C2": BLOCKED, "D16": BLOCKED, "E2": BLOCKED})
        self.assert_meanings(book({"C2": f"=turn({high})", "H3": "=grid(2;1;1;1)", "C4": "=grid(1;1;1;1)"}),
                             {"C2": BLOCKED, "H3": BLOCKED, "C4": (1, 1)})

    def test_areas_by_names_and_own_functions(self):
        there = book({"A1": "=area", "D1": "=two(1;area)", "F1": "=two(1;2)", "A5": "=lost(area)", "G5": "=two(area)"},
                     {"area": "side!A1:B2"}, {"two": (2, "stack(?0;?1)")})
        self.assert_meanings(there, {"A1": (2, 2), "B1": ("part", "A1", 0, 1), "A2": ("part", "A1", 1, 0),
                                     "B2": ("part", "A1", 1, 1), "D1": SHAPE, "F1": (2, 1),
                                     "F2": ("part", "F1", 1, 0), "A5": (1, 1), "G5": (1, 1)})

    def test_areas_of_sheets_that_are_not_there(self):
        self.assert_meanings(book({"A1": "=none!A1:B2", "A2": "=none!A:B+side!A1:B1"}),
                             {"A1": (1, 1), "A2": (1, 2), "B2": ("part", "A2", 0, 1)})

    def test_cells_of_sheets_that_are_not_there_are_empty(self):
        self.assertEqual(meaning_of(book({"A1": "=grid(2;2;1;1)"}), ("none", 1, 1)), EMPTY)

    def test_what_is_told_is_the_askers_own(self):
        there = book({"A1": "=grid(2;2;1;1)", "C1": "5"})
        kept = repr(there)
        wanted = repr(meanings_of(there))
        meanings_of(there).clear()
        told = meanings_of(there)
        told.reverse()
        self.assertEqual(repr(meanings_of(there)), wanted)
        self.assertEqual(repr(there), kept)
        hash(tuple(meanings_of(there)))

    def test_books_made_by_chance(self):
        chance = random.Random(16)
        seen = {}
        for k in range(500):
            there = book_of(*some_book(chance))
            wanted = plain_meanings(there)
            told = meanings_of(there)
            self.assertTrue(same(told, sorted(wanted.items(), key=lambda pair: pair[0])))
            for cell in chance.sample(cells_of_sheets(there), 3) + chance.sample(sorted(wanted), min(len(wanted), 3)):
                self.assertTrue(same(meaning_of(there, cell), wanted.get(cell, EMPTY)))
            for cell, meaning in told:
                word = meaning[1] if meaning[0] == "bad" else meaning[0]
                seen[word] = seen.get(word, 0) + 1
                if meaning[0] == "formula":
                    self.assertEqual(shape_of(meaning[1]), meaning[2])
        self.assertGreater(min(seen[word] for word in ("value", "formula", "part", "shape", "blocked")), 100, seen)


def renamed(thing, what, one, other):
    """A formula, a cell, or a tuple of whatever has such, with a sheet, name or own function called otherwise."""
    if not isinstance(thing, tuple):
        return thing
    if what == "sheet":
        return tuple(other if part == one else renamed(part, what, one, other) for part in thing)
    parts = tuple(renamed(part, what, one, other) for part in thing)
    return (what, other) + parts[2:] if parts[:2] == (what, one) else parts


def renamed_book(there, what, one, other):
    """The parts of a book with a sheet, name or own function called otherwise."""
    cells = [(renamed(cell, what, one, other) if what == "sheet" else cell, renamed(content, what, one, other))
             for cell, content in there[1]]
    names = [(other if what == "name" and name == one else name, renamed(formula, what, one, other))
             for name, formula in there[2]]
    owns = [(other if what == "own" and name == one else name, count, renamed(formula, what, one, other))
            for name, count, formula in there[3]]
    return [other if what == "sheet" and sheet == one else sheet for sheet in there[0]], cells, names, owns, there[4]


class RenamedTest(unittest.TestCase):
    def test_names_and_own_functions_called_otherwise_mean_the_same(self):
        there = book({"A1": "=a+b", "C1": "=twice(a)", "E1": "=a(1)+lost", "A9": "=twice(b)&stack(1;2)"},
                     {"a": "main!D5+b", "b": "a+side!A1:B2"}, {"twice": (1, "?0+?0+a(?0)"), "a": (1, "twice(?0)-a")})
        wanted = meanings_of(there)
        for what, one in (("name", "a"), ("name", "b"), ("own", "twice"), ("own", "a")):
            for other in ("zz", "abcdef", "c"):
                behind = book_of(*renamed_book(there, what, one, other))
                self.assertNotEqual(behind, there)
                self.assertEqual(meanings_of(behind), wanted)

    def test_books_made_by_chance(self):
        chance = random.Random(31)
        for k in range(150):
            there = book_of(*some_book(chance))
            wanted = meanings_of(there)
            for what, one in (("name", "one"), ("name", "two"), ("own", "zero"), ("own", "twice")):
                self.assertEqual(meanings_of(book_of(*renamed_book(there, what, one, "c"))), wanted)
            behind = book_of(*renamed_book(there, "sheet", "main", "zz"))
            moved = sorted((renamed(cell, "sheet", "main", "zz"), renamed(meaning, "sheet", "main", "zz"))
                           for cell, meaning in wanted)
            self.assertEqual(meanings_of(behind), moved)


if __name__ == "__main__":
    unittest.main()
