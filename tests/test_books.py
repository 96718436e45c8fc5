"""What a book is, how it is made, and the contents of its cells [12]."""

import random
import unittest

from freshsheet.books import book_of, content_at
from freshsheet.errors import NoBook
from freshsheet.formulas import count_parts, deepness
from freshsheet.reader import read_formula
from bookforms import ODD, is_plain_book, paths_in, with_thing
from plain import NO, NONE, YES, fault, num, some_book, text
from samples import A1, LEAVES, ONE, SAMPLES, long_sum, neg, negs, number, op, same

def formula(formula_text):
    """The content of a cell with a formula."""
    return ("formula", read_formula(formula_text))


def sheet_cells(many):
    """So many pairs of a cell and a content, sorted."""
    return [(("main", 1 + k // 8, 1 + k % 8), num(k)) for k in range(many)]


SHEETS = ["main", "side"]
CELLS = [(("main", 1, 1), num(1)), (("main", 2, 3), text("a b")), (("side", 16, 8), YES),
         (("side", 16, 7), formula("A1+main!$B3*sum(C:D)-twice(#)+lost"))]
NAMES = [("a", read_formula("main!A1+side!B2:C3*sum(none!$A:B)")), ("b", read_formula("a+b+lost(1)&#"))]
OWNS = [("a", 0, read_formula("main!A1")), ("twice", 1, read_formula("?0+?0")),
        ("three", 3, read_formula("if(?0;?1;?2)"))]
PARTS = (SHEETS, CELLS, NAMES, OWNS, 2)
# Short, for each thing in it is spoiled in turn.
SPOILED = (["main", "side"], [(("main", 1, 1), num(1)), (("side", 16, 8), text("a")), (("main", 2, 1), YES),
                              (("main", 2, 2), formula("A1+main!$B3:C4*f(#;no;2)-a&sum(C:D)"))],
           [("a", read_formula("main!A1+side!B2:C3*sum(none!$A:B)"))],
           [("f", 2, read_formula("if(?0;?1;b)+a(1)"))], 2)


class BooksTest(unittest.TestCase):
    def assert_book(self, *parts):
        """Checks that these parts are a book, and how that is."""
        told = book_of(*parts)
        wanted = (tuple(parts[0]),) + tuple(
            tuple(sorted(rows, key=lambda row: row[0])) for rows in parts[1:4]) + (parts[4],)
        self.assertTrue(same(told, wanted), (told, wanted))
        return told

    def assert_no_book(self, *parts):
        with self.assertRaises(NoBook):
            book_of(*parts)

    def with_part(self, place, part):
        return PARTS[:place] + (part,) + PARTS[place + 1:]

    def test_a_book(self):
        self.assert_book(*PARTS)
        self.assert_book(["main"], [], [], [], 0)
        self.assert_book(("main",), (), (), (), 4)

    def test_lists_and_tuples_in_any_order(self):
        chance = random.Random(12)
        wanted = self.assert_book(*PARTS)
        for k in range(60):
            parts = list(PARTS)
            for place in range(4):
                if place > 0:
                    parts[place] = chance.sample(parts[place], len(parts[place]))
                parts[place] = chance.choice([list, tuple])(parts[place])
            self.assertTrue(same(book_of(*parts), wanted))
        self.assertEqual(book_of(["side", "main"], CELLS, [], [], 0)[0], ("side", "main"))
        self.assertEqual(book_of(["side", "main"], CELLS, [], [], 0)[1][0][0], ("main", 1, 1))

    def test_cells_are_sorted_by_numbers(self):
        cells = [(("main", row, column), num(1)) for row in (16, 2, 10, 1) for column in (8, 1)]
        told = book_of(["main"], cells, [], [], 0)[1]
        self.assertEqual([cell[1:] for cell, content in told],
                         [(1, 1), (1, 8), (2, 1), (2, 8), (10, 1), (10, 8), (16, 1), (16, 8)])

    def test_each_is_sorted_by_its_first_alone(self):
        # Of contents and formulas some can't be compared with each other.
        cells = [(("main", 1, 2), formula("B2")), (("main", 1, 1), formula("side!B2")), (("main", 1, 3), YES)]
        names = [("b", read_formula("#")), ("a", read_formula("main!A1")), ("c", ("name", "a"))]
        self.assert_book(SHEETS, cells, names, OWNS, 0)

    def test_sheets(self):
        for many in range(6):
            names = ["abcdef"[:k + 1] for k in range(many)]
            if 1 <= many <= 4:
                self.assert_book(names, [], [], [], 0)
            else:
                self.assert_no_book(names, [], [], [], 0)
        for name in ("sum", "yes", "if", "a", "abcdef"):
            self.assert_book([name], [((name, 1, 1), num(1))], [], [], 0)
        for name in ("", "abcdefg", "A", "a1", "a b", "main!", None, 1, True, ("a",), ["a"], b"a", 0.5):
            self.assert_no_book([name], [], [], [], 0)
            self.assert_no_book(["main", name], [], [], [], 0)
        self.assert_no_book(["main", "main"], [], [], [], 0)
        self.assert_no_book(["main", "side", "a", "main"], [], [], [], 0)

    def test_sixty_cells_and_one_more(self):
        self.assert_book(["main"], sheet_cells(60), [], [], 0)
        self.assert_no_book(["main"], sheet_cells(61), [], [], 0)
        self.assert_no_book(["main"], tuple(sheet_cells(128)), [], [], 0)
        spread = sheet_cells(30) + [(("side",) + cell[1:], content) for cell, content in sheet_cells(30)]
        self.assert_book(SHEETS, spread, [], [], 0)
        self.assert_no_book(SHEETS, spread + [(("side", 16, 8), num(1))], [], [], 0)

    def test_a_cell_twice(self):
        self.assert_no_book(SHEETS, [CELLS[0], CELLS[0]], [], [], 0)
        self.assert_no_book(SHEETS, [(("main", 1, 1), num(1)), CELLS[2], (("main", 1, 1), formula("A2"))], [], [], 0)
        self.assert_book(SHEETS, [(("main", 1, 1), num(1)), (("side", 1, 1), num(1))], [], [], 0)

    def test_a_cell_on_a_sheet_that_is_not_there(self):
        self.assert_no_book(["main"], [(("side", 1, 1), num(1))], [], [], 0)
        self.assert_no_book(["side", "mai", "n"], [(("main", 1, 1), num(1))], [], [], 0)
        self.assert_no_book(("main",), [(("in", 1, 1), num(1))], [], [], 0)

    def test_what_is_no_cell(self):
        for cell in (("main", 0, 1), ("main", 17, 1), ("main", 1, 0), ("main", 1, 9), ("main", True, 1),
                     ("main", 1, True), ("main", 1), ("main", 1, 1, 1), ["main", 1, 1], "main!A1", None,
                     ("main", "1", 1), ("main", 1.0, 1), ("main", 1, 1, 2, 2), (None, 1, 1), ()):
            self.assert_no_book(SHEETS, [(cell, num(1))], [], [], 0)
            self.assert_no_book(SHEETS, CELLS + [(cell, num(1))], [], [], 0)

    def test_contents(self):
        for content in (num(0), num(-7, 3), num(10 ** 30 - 1, 10 ** 29), text(""), text("a 9"), text("z" * 20), YES,
                        NO):
            self.assert_book(SHEETS, [(("main", 1, 1), content)], [], [], 0)
        for tree, formula_text in SAMPLES:
            parts = (SHEETS, [(("main", 1, 1), ("formula", tree))], [], [], 0)
            if "?" in formula_text:
                self.assert_no_book(*parts)
            else:
                self.assert_book(*parts)

    def test_what_is_no_content(self):
        for content in (NONE, fault("kind"), fault("ring", ("main", 1, 1)), None, 1, True, "a", "=A1", [], (),
                        ("formula",), ("formula", None), ("formula", "A1"), ("formula", A1, A1), ["formula", A1], A1,
                        ONE, ("value", num(1)), ("number", 1), ("number", 2, 2), ("number", 1, 0), ("number", True, 1),
                        ("number", 10 ** 30, 1), ("text", "A"), ("text", "a" * 21), ("text", None), ("truth", 1),
                        ("truth", None), ("truth",), ("formula", NONE), ("formula", num(1)),
                        ("formula", ("value", NONE)), ("formula", ("fault", "gone")), ("formula", number(10 ** 9)),
                        ("formula", ("value", num(1, 2))), ("formula", number(-1)), ("formula", ("formula", A1)),
                        ("empty",), ("formula", list(A1)), ("formula", neg(list(A1)))):
            self.assert_no_book(SHEETS, [(("main", 1, 1), content)], [], [], 0)
            self.assert_no_book(SHEETS, CELLS + [(("main", 5, 5), content)], [], [], 0)

    def test_formulas_too_great(self):
        full = neg(long_sum(12))
        self.assertEqual((count_parts(full), deepness(negs(7))), (24, 8))
        for tree in (full, negs(7)):
            self.assert_book(SHEETS, [(("main", 1, 1), ("formula", tree))], [("a", tree)], [("a", 1, tree)], 0)
        for tree in (neg(full), negs(8)):
            self.assert_no_book(SHEETS, [(("main", 1, 1), ("formula", tree))], [], [], 0)
            self.assert_no_book(SHEETS, [], [("a", tree)], [], 0)
            self.assert_no_book(SHEETS, [], [], [("a", 1, tree)], 0)

    def test_pairs_are_tuples_of_two(self):
        for place, pair in ((1, CELLS[0]), (2, NAMES[0]), (3, OWNS[0])):
            for spoiled in (list(pair), pair + (None,), pair[:-1], pair[:1], (), None, pair[0], {pair[0]: 1}, "ab"):
                self.assert_no_book(*self.with_part(place, [spoiled]))
                self.assert_no_book(*self.with_part(place, list(PARTS[place]) + [spoiled]))

    def test_parts_are_lists_or_tuples(self):
        for place in range(4):
            for part in (None, "", "main", "ab", 0, 1, True, {}, {"main": 1}, set(), frozenset(["main"]), range(0),
                         iter(()), b"", dict(NAMES), object()):
                self.assert_no_book(*self.with_part(place, part))

    def test_eight_names_and_one_more(self):
        names = [("a" * k + "b", ONE) for k in range(6)] + [("c", ONE), ("d", ONE), ("e", ONE)]
        self.assert_book(SHEETS, [], names[:8], [], 0)
        self.assert_no_book(SHEETS, [], names, [], 0)
        self.assert_no_book(SHEETS, [], [("a", ONE), ("b", ONE), ("a", ONE)], [], 0)
        self.assert_no_book(SHEETS, [], [("a", ONE), ("a", A1)], [], 0)

    def test_six_own_functions_and_one_more(self):
        owns = [("a" * k + "b", k % 4, ONE) for k in range(6)] + [("c", 0, ONE)]
        self.assert_book(SHEETS, [], [], owns[:6], 0)
        self.assert_no_book(SHEETS, [], [], owns, 0)
        self.assert_no_book(SHEETS, [], [], [("a", 0, ONE), ("b", 0, ONE), ("a", 1, ONE)], 0)

    def test_a_name_and_an_own_function_called_alike(self):
        self.assert_book(["a"], [(("a", 1, 1), formula("a+a()"))], [("a", ONE)], [("a", 0, ONE)], 0)

    def test_what_names_and_own_functions_are_called(self):
        for name in ("a", "abcdef", "main", "yess", "neg", "op", "value", "name"):
            self.assert_book(SHEETS, [], [(name, ONE)], [(name, 0, ONE)], 0)
        for name in ("", "abcdefg", "A", "a1", "a b", None, 1, True, ("a",), ["a"], "yes", "no", "if", "sum", "count",
                     "least", "most", "sumif", "find", "turn", "stack", "grid", "outer"):
            self.assert_no_book(SHEETS, [], [(name, ONE)], [], 0)
            self.assert_no_book(SHEETS, [], [], [(name, 0, ONE)], 0)

    def test_params(self):
        for k in range(3):
            param = ("param", k)
            for tree in (param, neg(param), op("+", ONE, ("own", "a", (ONE, param)))):
                self.assert_no_book(SHEETS, [(("main", 1, 1), ("formula", tree))], [], [], 0)
                self.assert_no_book(SHEETS, [], [("a", tree)], [], 0)
                for count in range(4):
                    if k < count:
                        self.assert_book(SHEETS, [], [], [("a", count, tree)], 0)
                    else:
                        self.assert_no_book(SHEETS, [], [], [("a", count, tree)], 0)
        for k in (3, -1, True, None, "0"):
            self.assert_no_book(SHEETS, [], [], [("a", 3, ("param", k))], 0)

    def test_counts_of_own_functions(self):
        for count in range(4):
            self.assert_book(SHEETS, [], [], [("a", count, ONE)], 0)
        for count in (-1, 4, 60, True, False, None, "1", 1.0, (1,), [1]):
            self.assert_no_book(SHEETS, [], [], [("a", count, ONE)], 0)

    def test_untold_sheets(self):
        for untold, told in (("A1", "main!A1"), ("A1:B2", "none!A1:B2"), ("$A:B", "side!$A:B")):
            for around in ("{}", "-{}", "1+{}", "{}*main!A1", "sum({})", "f({};1)", "if(1;2;{})", "sumif(1;<;{};2)",
                           "grid(2;2;1;turn({}))", "f(f(-{}))"):
                inner = read_formula(around.replace("{}", untold))
                outer = read_formula(around.replace("{}", told))
                self.assert_book(SHEETS, [(("main", 1, 1), ("formula", inner))], [("a", outer)], [("a", 0, outer)], 0)
                self.assert_no_book(SHEETS, [], [("a", inner)], [], 0)
                self.assert_no_book(SHEETS, [], [], [("a", 0, inner)], 0)
                self.assert_no_book(SHEETS, [], [], [("a", 3, inner)], 0)

    def test_references_to_sheets_that_are_not_there(self):
        for formula_text in ("none!A1", "none!A1:B2", "none!A:B", "lost", "lost(1)", "sum(none!A:B)"):
            tree = read_formula(formula_text)
            self.assert_book(["main"], [(("main", 1, 1), ("formula", tree))], [("a", tree)], [("a", 0, tree)], 0)

    def test_rounds(self):
        for rounds in range(5):
            self.assert_book(SHEETS, [], [], [], rounds)
        for rounds in (-1, 5, 10 ** 60, True, False, None, "1", 1.0, 0.5, (1,), [1], [], ()):
            self.assert_no_book(SHEETS, [], [], [], rounds)

    def test_whatever_things_in_whatever_places(self):
        self.assertTrue(is_plain_book(SPOILED))
        many = 0
        for path in paths_in(SPOILED)[1:]:
            for place, thing in enumerate(ODD):
                spoiled = with_thing(SPOILED, path, thing)
                with self.subTest(path=path, place=place):
                    if is_plain_book(spoiled):
                        many += 1
                        self.assert_book(*spoiled)
                    else:
                        self.assert_no_book(*spoiled)
        self.assertGreater(many, 100)

    def test_whatever_things_beside_others(self):
        for place in range(4):
            for thing in ODD:
                spoiled = self.with_part(place, list(PARTS[place]) + [thing])
                if place == 0 and is_plain_book(spoiled):
                    self.assert_book(*spoiled)
                else:
                    self.assert_no_book(*spoiled)
        for thing in ODD:
            self.assert_no_book(thing, thing, thing, thing, thing)

    def test_what_is_handed_in_stays_as_it_was(self):
        kept = repr(PARTS)
        parts = [list(SHEETS), list(CELLS), list(NAMES), list(OWNS), 2]
        told = book_of(*parts)
        self.assertEqual(repr(parts), repr(list(PARTS)))
        wanted = repr(told)
        for part in parts[:4]:
            part.reverse()
            part.pop()
            part.append(None)
        self.assertEqual(repr(told), wanted)
        self.assertTrue(same(book_of(*PARTS), told))
        self.assertEqual(repr(PARTS), kept)
        self.assertNotIn("[", wanted)

    def test_what_is_refused_stays_as_it_was(self):
        parts = [["main"], [(("main", 2, 1), num(1)), (("main", 1, 1), NONE)], [("b", ONE), ("a", ONE)], [], 9]
        kept = repr(parts)
        self.assert_no_book(*parts)
        self.assertEqual(repr(parts), kept)

    def test_a_book_made_of_a_book(self):
        told = book_of(*PARTS)
        self.assertTrue(same(book_of(*told), told))
        hash(told)

    def test_contents_of_cells(self):
        told = book_of(*PARTS)
        for cell, content in CELLS:
            self.assertTrue(same(content_at(told, cell), content))
        for cell in (("main", 1, 2), ("main", 2, 1), ("side", 1, 1), ("side", 15, 8), ("none", 1, 1), ("main", 16, 8)):
            self.assertIsNone(content_at(told, cell))
        self.assertIsNone(content_at(book_of(["main"], [], [], [], 0), ("main", 1, 1)))

    def test_contents_of_the_parts_of_an_area(self):
        told = book_of(["main"], [(("main", 1, 1), formula("grid(2;2;1;1)"))], [], [], 0)
        self.assertEqual(content_at(told, ("main", 1, 1)), formula("grid(2;2;1;1)"))
        self.assertIsNone(content_at(told, ("main", 1, 2)))

    def test_books_made_by_chance(self):
        chance = random.Random(13)
        for k in range(200):
            parts = some_book(chance)
            told = self.assert_book(*parts)
            turned = [parts[0]] + [part[::-1] for part in parts[1:4]] + [parts[4]]
            self.assertTrue(same(book_of(*turned), told))
            for cell, content in parts[1]:
                self.assertEqual(content_at(told, cell), content)

    def test_leaves_stand_in_names_where_their_sheet_is_told(self):
        for tree, formula_text in LEAVES:
            parts = (SHEETS, [], [("a", tree)], [], 0)
            if "?" in formula_text or tree[0] in ("cell", "range", "columns") and tree[1] is None:
                self.assert_no_book(*parts)
            else:
                self.assert_book(*parts)


if __name__ == "__main__":
    unittest.main()
