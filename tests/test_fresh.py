"""What a book shows [21], and what a formula and a part show [18]."""

import random
import unittest

from freshsheet.books import book_of, meaning_of, meanings_of
from freshsheet.fresh import all_shown, shown_at
from freshsheet.reckon import reckoned
from freshsheet.values import is_value
from plain import NO, NONE, YES, book, cells_of_sheets, fault, num, place, plain_meanings, some_book, text
from plainfresh import outer_of, plain_shown, some_knotty_book
from samples import same

WORDS = ("kind", "nought", "gone", "name", "great", "miss")


def refuse(value):
    """An outer function that may not be asked."""
    raise AssertionError(value)


class Asked:
    """An outer function that keeps what it was asked."""

    def __init__(self, answer=num(1)):
        self.answer = answer
        self.values = []

    def __call__(self, value):
        self.values.append(value)
        return self.answer


class FreshCase(unittest.TestCase):
    def assert_shows(self, there, shown, outer=refuse):
        """Checks what a book shows of cells, told by their texts, one by one and all at once."""
        every = all_shown(there, outer)
        self.assertIs(type(every), list)
        by_cell = dict(every)
        for cell, value in shown.items():
            told = shown_at(there, place(cell), outer)
            self.assertTrue(same(told, value), (cell, told, value))
            self.assertTrue(same(by_cell.get(place(cell), NONE), value), cell)


class ShownTest(FreshCase):
    def test_empty_cells(self):
        there = book({"A1": "=1", "B2": "7"})
        self.assert_shows(there, {"A2": NONE, "H16": NONE, "side!A1": NONE, "B1": NONE})
        self.assert_shows(book({}), {"A1": NONE})
        self.assertEqual(all_shown(book({}), refuse), [])

    def test_a_cell_whose_sheet_is_not_there(self):
        self.assertEqual(shown_at(book({"A1": "=1"}), ("none", 1, 1), refuse), NONE)

    def test_values(self):
        self.assert_shows(book({"A1": "-7/3", "B1": "'a b", "C1": "yes", "D1": "no", "E1": "'", "F1": "0"}),
                          {"A1": num(-7, 3), "B1": text("a b"), "C1": YES, "D1": NO, "E1": text(""), "F1": num(0)})

    def test_bad_cells(self):
        there = book({"A1": "=A1:A2+A1:B1", "C1": "=C5:D5", "D1": "7", "H1": "=A1:B1", "side!A1": "=grid(2;2;1;1)",
                      "side!B2": "=1", "F5": "=grid(2;2;1;1)", "G6": "=grid(2;1;1;1)", "B8": "=A1+1", "C8": "=C1&H1"})
        self.assert_shows(there, {"A1": fault("shape", place("A1")), "C1": fault("blocked", place("C1")),
                                  "H1": fault("blocked", place("H1")), "side!A1": fault("blocked", place("side!A1")),
                                  "F5": fault("blocked", place("F5")), "G6": fault("blocked", place("G6")),
                                  "F6": NONE, "G5": NONE, "G7": NONE, "side!A2": NONE, "D1": num(7),
                                  "side!B2": num(1), "B8": fault("shape", place("A1")),
                                  "C8": fault("blocked", place("C1"))})

    def test_formulas(self):
        there = book({"A1": "5", "B1": "=A1+1", "C1": "=B1*B1", "A2": "=sum(A1:C1)", "A3": "=H16", "A4": '=A3&"a"',
                      "A5": "=A3=H15", "side!A1": "=main!C1+A1", "B6": "=-7"})
        self.assert_shows(there, {"B1": num(6), "C1": num(36), "A2": num(47), "A3": NONE, "A4": text("a"), "A5": YES,
                                  "side!A1": fault("ring", place("side!A1")), "B6": num(-7)})

    def test_faults_that_are_made_and_that_come(self):
        there = book({"A1": '="a"+1', "B1": "=1/0", "C1": "=#", "D1": "=lost", "E1": "=999999999*E2",
                      "F1": "=find(1;2;1)", "E2": "999999999999999999999999999999", "A2": "=A1", "B2": "=-B1",
                      "C2": "=sum(C1:D1)", "D2": "=D1&A1", "F2": "=if(F1;1;2)", "G1": "=none!A1", "G2": "=G1:G1+1",
                      "H1": "=lost(1)"})
        shown = {cell: fault(word, place(cell)) for cell, word in zip("A1 B1 C1 D1 E1 F1".split(), WORDS)}
        shown.update({"A2": shown["A1"], "B2": shown["B1"], "C2": shown["C1"], "D2": shown["D1"], "F2": shown["F1"],
                      "G1": fault("gone", place("G1")), "G2": fault("gone", place("G1")),
                      "H1": fault("name", place("H1"))})
        self.assert_shows(there, shown)

    def test_too_great_a_formula(self):
        owns = {name: (1, f"{behind}+{behind}") for name, behind in
                zip("abcdef", ["?0", "a(?0)", "b(?0)", "c(?0)", "d(?0)", "e(?0)"])}
        there = book({"A1": "=e(A2)", "B1": "=e(f(A2))", "C1": "=f(A2)", "A2": "1"}, owns=owns)
        self.assert_shows(there, {"A1": num(32), "B1": fault("great", place("B1")), "C1": num(64)})

    def test_tables_and_parts(self):
        there = book({"A1": "5", "B2": "=grid(2;3;A1;10)", "F1": "=turn(B2:D3)", "A9": "=C3", "B9": "=sum(B2:D3)",
                      "A7": "=B2", "B16": "=C2:D2&1"})
        self.assert_shows(there, {"B2": num(5), "C2": num(15), "D2": num(25), "B3": num(35), "C3": num(45),
                                  "D3": num(55), "F1": num(5), "G1": num(35), "F2": num(15), "G2": num(45),
                                  "F3": num(25), "G3": num(55), "A9": num(45), "B9": num(180), "A7": num(5),
                                  "B16": text("151"), "C16": text("251"), "B4": NONE})

    def test_faults_of_parts_have_the_anchor(self):
        there = book({"A1": "=stack(1;#)", "B1": '=stack("a";0)+1', "C1": "=stack(1;0)/stack(1;0)", "D1": "=C2"})
        self.assert_shows(there, {"A1": num(1), "A2": fault("gone", place("A1")), "B1": fault("kind", place("B1")),
                                  "B2": num(1), "C1": num(1), "C2": fault("nought", place("C1")),
                                  "D1": fault("nought", place("C1"))})

    def test_names_and_own_functions(self):
        there = book({"A1": "5", "B1": "=one+twice(A1)", "side!A1": "=one"}, {"one": "main!A1+1"},
                     {"twice": (1, "?0+?0")})
        self.assert_shows(there, {"B1": num(16), "side!A1": num(6)})

    def test_long_chains(self):
        names = [f"{'ABCDEFGH'[k % 8]}{k // 8 + 1}" for k in range(60)]
        contents = {name: f"={behind}+1" for name, behind in zip(names, names[1:])}
        contents[names[-1]] = "=grid(1;5;1;1)"
        there = book(contents)
        self.assert_shows(there, {name: num(60 - k) for k, name in enumerate(names)})
        self.assert_shows(there, {"H8": num(5), "E8": num(2)})

    def test_all_shown_is_sorted_and_has_all_but_empty_cells(self):
        there = book({"B1": "=grid(2;2;1;1)", "A10": "=H16", "A2": "'a", "side!A1": "=A1:B2+A1:C3", "a!H1": "7"},
                     sheets=("side", "main", "a"))
        told = all_shown(there, refuse)
        wanted = [("a!H1", num(7)), ("B1", num(1)), ("C1", num(2)), ("A2", text("a")), ("B2", num(3)), ("C2", num(4)),
                  ("A10", NONE), ("side!A1", fault("shape", place("side!A1")))]
        self.assertTrue(same(told, [(place(cell), value) for cell, value in wanted]), told)


class OuterTest(FreshCase):
    def test_asked_with_the_value(self):
        for value, told in (("5", num(5)), ("'a b", text("a b")), ("yes", YES), ("=H16", NONE), ("=1/3", num(1, 3))):
            outer = Asked(text("told"))
            there = book({"A1": value, "B1": "=outer(A1)"})
            self.assertEqual(shown_at(there, place("B1"), outer), text("told"))
            self.assertEqual(outer.values, [told])

    def test_not_asked_of_faults(self):
        there = book({"A1": "=1/0", "B1": "=outer(A1)", "C1": "=outer(C1)", "D1": "=D1:E1", "E1": "5",
                      "F1": "=outer(D1)", "G1": "=outer(lost)"})
        nought, ring, blocked = [fault(word, place(cell)) for word, cell in
                                 (("nought", "A1"), ("ring", "C1"), ("blocked", "D1"))]
        self.assert_shows(there, {"B1": nought, "C1": ring, "F1": blocked, "G1": fault("name", place("G1"))})

    def test_a_chain_of_them(self):
        there = book({"A1": "5", "B1": "=outer(A1)", "C1": "=outer(B1)", "D1": "=outer(outer(C1))+1"})
        self.assert_shows(there, {"B1": num(6), "C1": num(7), "D1": num(10)}, outer_of)

    def test_asked_in_the_part_not_chosen(self):
        outer = Asked()
        there = book({"A1": "=if(yes;5;outer(7))"})
        self.assertEqual(shown_at(there, place("A1"), outer), num(5))
        self.assertEqual(outer.values, [num(7)])

    def test_in_a_knot(self):
        there = book({"A1": "=outer(A1)"}, rounds=3)
        outer = Asked(num(4))
        self.assertEqual(shown_at(there, place("A1"), outer), num(4))
        self.assertEqual(outer.values[0], NONE)
        self.assert_shows(book({"A1": "=outer(A1)+1"}, rounds=4), {"A1": num(8)},
                          lambda value: num(1) if value == NONE else outer_of(value))

    def test_not_asked_where_a_knot_has_no_rounds(self):
        self.assert_shows(book({"A1": "=outer(7)+A1"}), {"A1": fault("ring", place("A1"))})


class RingTest(FreshCase):
    """Knots where rounds is 0."""

    def rings(self, signs):
        return {cell: fault("ring", place(cell)) for cell in signs.split()}

    def test_each_cell_has_itself(self):
        self.assert_shows(book({"A1": "=A1"}), self.rings("A1"))
        self.assert_shows(book({"A1": "=B1", "B1": "=side!A1", "side!A1": "=main!A1+1"}), self.rings("A1 B1 side!A1"))
        self.assert_shows(book({"A1": "=if(no;A1;7)", "B1": "=count(B1)"}), self.rings("A1 B1"))

    def test_parts_in_it_have_themselves_and_parts_beside_the_anchor(self):
        there = book({"A1": "=C2+1", "C1": "=grid(3;2;A1;1)", "E1": "=C3"})
        anchor = fault("ring", place("C1"))
        self.assert_shows(there, {**self.rings("A1 C1 C2"), "C3": anchor, "D1": anchor, "D2": anchor, "D3": anchor,
                                  "E1": anchor})

    def test_at_each_place_of_the_shape(self):
        there = book({"B1": "=stack(B1;7)"})
        self.assert_shows(there, {"B1": fault("ring", place("B1")), "B2": fault("ring", place("B1"))})

    def test_what_leans_on_a_knot(self):
        there = book({"A1": "=B1", "B1": "=A1", "C1": "=B1+A1", "D1": "=sum(A1:B1)", "E1": "=if(A1;1;2)", "F1": "=C1&1",
                      "G1": "=A1:B1", "A2": "=sumif(A1:B1;=;1;A1:B1)", "B2": "=find(1;A1:B1;2)"})
        first, second = fault("ring", place("A1")), fault("ring", place("B1"))
        self.assert_shows(there, {"C1": second, "D1": first, "E1": first, "F1": second, "G1": first, "H1": second,
                                  "A2": num(0), "B2": fault("miss", place("B2"))})

    def test_a_knot_that_leans_on_another(self):
        self.assert_shows(book({"A1": "=A1+B1", "B1": "=B1"}), self.rings("A1 B1"))


class RoundsTest(FreshCase):
    """Knots where rounds is from 1 to 4."""

    def assert_rounds(self, contents, told):
        """Checks what a knot shows with 1, 2, 3, 4 rounds."""
        for cell, values in told.items():
            for k, value in enumerate(values):
                self.assert_shows(book(contents, rounds=k + 1), {cell: value}, outer_of)

    def test_a_cell_on_itself(self):
        self.assert_rounds({"A1": "=A1+1"}, {"A1": [num(1), num(2), num(3), num(4)]})
        self.assert_rounds({"A1": "=A1"}, {"A1": [NONE] * 4})
        self.assert_rounds({"A1": '=A1&"ab"'}, {"A1": [text("ab" * k) for k in (1, 2, 3, 4)]})
        self.assert_rounds({"A1": "=A1=H16"}, {"A1": [YES, NO, NO, NO]})

    def test_by_the_round_ahead_alone(self):
        self.assert_rounds({"A1": "=B1+1", "B1": "=A1*2"}, {"A1": [num(1), num(1), num(3), num(3)],
                                                            "B1": [num(0), num(2), num(2), num(6)]})
        self.assert_rounds({"B1": "=A1+1", "A1": "=B1*2"}, {"B1": [num(1), num(1), num(3), num(3)],
                                                            "A1": [num(0), num(2), num(2), num(6)]})

    def test_with_what_others_show(self):
        self.assert_rounds({"A1": "=A1+B1", "B1": "=C1+1", "C1": "5"}, {"A1": [num(6), num(12), num(18), num(24)]})
        self.assert_rounds({"A1": "=A1+B1", "B1": "=B1+1"}, {"A1": [num(1), num(4), num(9), num(16)]})
        self.assert_rounds({"A1": "=A1+B1", "B1": "=B2:C3+A2:B2", "B3": "7"}, {"A1": [fault("shape", place("B1"))] * 4})
        self.assert_rounds({"A1": "=sum(A1:C1)", "B1": "=outer(7)", "C1": "=stack(1;1)"},
                           {"A1": [num(9), num(18), num(27), num(36)]})

    def test_faults(self):
        self.assert_rounds({"A1": "=1/A1"}, {"A1": [fault("nought", place("A1"))] * 4})
        self.assert_rounds({"A1": "=1/B1", "B1": "=A1"}, {"A1": [fault("nought", place("A1"))] * 4,
                                                          "B1": [NONE] + [fault("nought", place("A1"))] * 3})

    def test_tables_and_parts_in_it(self):
        contents = {"A1": "=grid(2;1;A2;1)"}
        self.assert_rounds(contents, {"A1": [num(0), num(0), num(1), num(1)], "A2": [NONE, num(1), num(1), num(2)]})
        contents = {"C1": "=grid(3;1;C2+1;1)", "A1": "=C3", "B1": "=C1"}
        self.assert_rounds(contents, {"C1": [num(1), num(1), num(3), num(3)], "C2": [NONE, num(2), num(2), num(4)],
                                      "C3": [num(3), num(3), num(5), num(5)], "A1": [num(3), num(3), num(5), num(5)],
                                      "B1": [num(1), num(1), num(3), num(3)]})

    def test_an_anchor_on_itself_alone(self):
        self.assert_rounds({"B1": "=stack(B1+1;B1)"}, {"B1": [num(1), num(2), num(3), num(4)],
                                                       "B2": [NONE, num(1), num(2), num(3)]})

    def test_what_leans_on_a_knot(self):
        self.assert_rounds({"A1": "=A1+1", "B1": "=A1*10", "C1": "=C1+B1"},
                           {"B1": [num(10), num(20), num(30), num(40)], "C1": [num(10), num(40), num(90), num(160)]})

    def test_books_made_by_chance(self):
        chance = random.Random(33)
        for k in range(600):
            there = some_knotty_book(chance)
            shown = plain_shown(there, outer_of)
            told = all_shown(there, outer_of)
            self.assertTrue(same(told, sorted(shown.items())), there)
            self.assertTrue(all(is_value(value) for cell, value in told))


class WholeTest(FreshCase):
    """Books made by chance, and the same answers whatever was asked ahead."""

    def test_books_made_by_chance(self):
        chance = random.Random(34)
        for k in range(150):
            there = book_of(*some_book(chance))
            shown = plain_shown(there, outer_of)
            self.assertTrue(same(all_shown(there, outer_of), sorted(shown.items())), there)
            for cell in chance.sample(cells_of_sheets(there), 3) + chance.sample(sorted(shown), min(3, len(shown))):
                self.assertTrue(same(shown_at(there, cell, outer_of), shown.get(cell, NONE)), (there, cell))

    def test_the_same_whatever_was_asked_ahead(self):
        chance = random.Random(35)
        for k in range(60):
            there = some_knotty_book(chance)
            before = repr(there)
            cells = [cell for cell, meaning in meanings_of(there)] + chance.sample(cells_of_sheets(there), 2)
            wanted = {cell: shown_at(there, cell, outer_of) for cell in cells}
            chance.shuffle(cells)
            for cell in cells + cells[:3]:
                self.assertTrue(same(shown_at(there, cell, outer_of), wanted[cell]))
                all_shown(there, outer_of).clear()
            self.assertEqual(dict(all_shown(there, outer_of)), {cell: wanted[cell] for cell in plain_meanings(there)})
            self.assertEqual(repr(there), before)

    def test_a_mover_in_no_knot_is_what_is_reckoned(self):
        there = book({"A1": "5", "B1": "=grid(2;2;A1;A1)", "D1": "=sum(B1:C2)+1"})
        shown = dict(all_shown(there, refuse))
        for cell in (place("B1"), place("D1")):
            table = reckoned(meaning_of(there, cell)[1], cell, lambda of: shown.get(of, NONE), refuse)
            self.assertEqual(table[0][0], shown[cell])


if __name__ == "__main__":
    unittest.main()
