"""How a text is read to a formula, and where it is refused [11]."""

import random
import unittest

from freshsheet import errors
from freshsheet.formulas import count_parts, deepness, is_formula, parts_of
from freshsheet.reader import read_formula
from freshsheet.writer import formula_text
from grammar import signs_behind, stops_at
from samples import A, B, C, ONE, SAMPLES, WORDS, cell, long_sum, neg, negs, number, op, same, some_formula

EVERY_SIGN = [chr(code) for code in range(ord(" "), ord("~") + 1)] + ["\n", "\t", "\u00e4", "\u0661"]

# A text, and the number of its first sign with which no text goes on.
WRONG_SIGNS = [
    (" ", 0), (" 1", 0), ("1 ", 1), ("1 +2", 1), ("1+ 2", 2), ("a b", 1), ("\n", 0), ("1\n", 1), ("\u00e4", 0),
    ("\u0661", 0), ("1\u0661", 1), ("+1", 0), ("*", 0), (")", 0), (";", 0), ("=1", 0), ("&", 0), ("'a", 0), (">", 0),
    ("1>2", 1), ("1<=2", 2), ("1==2", 2), ("1**2", 2), ("1+*2", 2), ("1++2", 2), ("1;2", 1), ("1)", 1), ("(1))", 3),
    ("()", 1), ("(1;2)", 2), ("-)", 1), ("1(", 1), ("(1)(2)", 3), ("(1)2", 3), ("(a)b", 3), ("2a", 1), ("1A1", 1),
    ("1.5", 1), ("1,5", 1), ("1:2", 1), ("1!A1", 1),
    ("00", 1), ("01", 1), ("1+01", 3), ("0a", 1), ("1234567890", 9), ("1000000000", 9), ("9999999999", 9),
    ("-1234567890", 10), ("0!", 1),
    ('"A"', 1), ('"a_b"', 2), ('"a\'b"', 2), ('"a;b"', 2), ('""a', 2), ('"a""b"', 3), ('"a"(', 3), ("\"\u00e4\"", 1),
    ('"' + "a" * 21 + '"', 21), ('"' + " " * 21, 21), ('"' + "0" * 30, 21), ('1&"' + "a" * 21 + '"', 23),
    ("yes(", 3), ("no(1)", 2), ("yes1", 3), ("yesA1", 3), ("yes:no", 3), ("yes;", 3), ("noyes(;", 6),
    ("if", 2), ("if+1", 2), ("sum", 3), ("sum)", 3), ("sum;", 3), ("1+sum=", 5), ("sum:", 3), ("outer1", 5),
    ("abcdefg", 6), ("abcdefg!A1", 6), ("abcdefgh(1)", 6), ("abcdefA1", 6), ("sumifsx", 6), ("a1", 1), ("aA1", 1),
    ("a:b", 1), ("a.b", 1), ("a_b", 1), ("main!", 5), ("main!!", 5), ("main!a", 5), ("main!1", 5), ("main!#", 5),
    ("main!(A1)", 5), ("main!?0", 5), ("main!-A1", 5), ("main!A1:main!B2", 8), ("main!A1!", 7), ("A1!B2", 2),
    ("A!B2", 1), ("!A1", 0),
    ("A", 1), ("I1", 0), ("Z1", 0), ("A+", 1), ("A)", 1), ("A0", 1), ("A01", 1), ("A17", 2), ("A18", 2), ("A19", 2),
    ("A20", 2), ("A2a", 2), ("A160", 3), ("A$0", 2), ("A$17", 3), ("A$$1", 2), ("$$A1", 1), ("$1", 1), ("$a1", 1),
    ("A$:B", 2), ("$", 1), ("A1$", 2), ("AB1", 1), ("AA", 1), ("A1B2", 2), ("A1A", 2), ("$I", 1), ("A1(", 2),
    ("A1:", 3), ("A1:B", 4), ("A1:1", 3), ("A1:b2", 3), ("A1:B:", 4), ("A1:B2:", 5), ("A1:B2:C3", 5), ("A1::B2", 3),
    ("A1:B0", 4), ("A1:B17", 5), ("A1:I1", 3), ("A1:(B2)", 3), ("(A1):B2", 4), ("A1:+", 3), ("A1:$", 4),
    ("A:", 2), ("A:B1", 3), ("A:B:C", 3), ("A:1", 2), ("A:b", 2), ("A:$", 3), ("A:$$B", 3), ("A:B$", 3), ("A:BC", 3),
    ("?", 1), ("?3", 1), ("?9", 1), ("?-1", 1), ("?00", 2), ("?01", 2), ("?a", 1), ("?0(", 2), ("??0", 1),
    ("##", 1), ("#1", 1), ("#!", 1), ("#A1", 1), ("1#", 1),
    ("f(", 2), ("f(;", 2), ("f(;1)", 2), ("f(1;)", 4), ("f(1;2;3;4)", 7), ("f(1;2;3;", 7), ("f((1;2))", 4),
    ("f()1", 3), ("f()(", 3), ("f(1)(2)", 4), ("f(()", 3), ("f(())", 3), ("f(1,2)", 3), ("f(1", 3),
    ("f(1;2;3", 7), ("(f)(1)", 3), ("f!(", 2), ("f;", 1),
    ("if()", 3), ("if(1)", 4), ("if(1;2)", 6), ("if(1;2;3;4)", 8), ("if(;", 3), ("if(1;;", 5), ("if(1;2;)", 7),
    ("sum()", 4), ("sum(1;2)", 5), ("sum((1;2))", 6), ("count(1;", 7), ("least(1;2)", 7), ("most()", 5),
    ("turn(1;2)", 6), ("outer(1;2)", 7), ("stack(1)", 7), ("stack(1;2;3)", 9), ("find(1;2)", 8), ("find(1;2;3;", 10),
    ("sumif(1)", 7), ("sumif(1;2", 8), ("sumif(1;>;", 8), ("sumif(1;+;", 8), ("sumif(1;<=", 9), ("sumif(1;(<)", 8),
    ("sumif(1;<2", 9), ("sumif(1;<)", 9), ("sumif(1;<;2)", 11), ("sumif(1;<;;", 10), ("sumif(1;<;2;3;", 13),
    ("sumif(<", 6), ("sumif(1;;", 8), ("sumif(1;=;=", 10),
    ("grid()", 5), ("grid(0;", 5), ("grid(01", 5), ("grid(17;", 6), ("grid(20", 6), ("grid(160", 7), ("grid((2)", 5),
    ("grid(a", 5), ("grid(-1", 5), ("grid(2)", 6), ("grid(2+", 6), ("grid(2;0", 7), ("grid(2;9", 7), ("grid(2;10", 8),
    ("grid(2;(3)", 7), ("grid(2;3)", 8), ("grid(2;3;1)", 10), ("grid(2;3;1;2;", 12), ("grid(2;;", 7), ("grid(A1", 5),
]

# Texts that end too early, but are the beginnings of texts that are read.
TOO_EARLY = [
    "", "-", "--", "(", "((", "((1)", "1+", "1+-", "1=", "1<(", "a&", "sum", "sum(", "sum(1", "if(1", "if(1;", "if(1;2",
    "if(1;2;", "if(1;2;3", "f(", "f(1;", "f(1;2;3", "main!", "yes!", "sum!", "$", "A", "$A", "A$", "$A$", "A1:", "A1:B",
    "A1:$", "A1:B$", "A:", "A:$", "main!A", "main!A:", '"', '"a', '"a b', '"' + "a" * 20, "?", "grid(", "grid(1",
    "grid(16;", "grid(16;8", "grid(16;8;", "grid(16;8;1", "grid(16;8;1;", "sumif(", "sumif(1", "sumif(1;", "sumif(1;<",
    "sumif(1;<;", "sumif(1;<;1", "sumif(1;<;1;1", "(1", "(1+", "f((1)", "outer(", "A12:A1", "A5:A1", "A10:A", "H:",
]

# A range whose second corner isn't behind its first one, and where that shows.
OUT_OF_ORDER = [
    ("B1:A1", 3), ("B1:A", 3), ("B1:$A$1", 4), ("$B$1:$A", 6), ("main!B1:A1", 8), ("H1:G1", 3), ("B2:A3", 3),
    ("A2:A1", 5), ("A2:A1+1", 5), ("A2:B1)", 5), ("sum(A2:B1)", 9), ("A3:A2", 4), ("A3:$A$2", 6), ("A9:A8", 4),
    ("A10:A9", 5), ("A10:A2", 5), ("A12:A2", 5), ("A12:A1", 6), ("A12:A1;", 6), ("A12:A11", 6), ("A12:A10", 6),
    ("A16:A15", 6), ("A16:$A$15", 8), ("A2:A17", 5), ("A12:A17", 6), ("B12:A11", 4), ("a!A12:A11", 8),
    ("B:A", 2), ("B:$A", 3), ("$B:A", 3), ("main!C:B", 7), ("H:G", 2), ("1+B:A", 4),
]


def bracketed(chance, formula):
    """A text of a formula with brackets around each part, and some more."""
    parts = [bracketed(chance, part) for part in parts_of(formula)]
    kind = formula[0]
    if kind == "op":
        text = parts[0] + formula[1] + parts[1]
    elif kind == "neg":
        text = "-" + parts[0]
    elif kind == "sumif":
        text = "sumif(" + parts[0] + ";" + formula[2] + ";" + parts[1] + ";" + parts[2] + ")"
    elif kind == "grid":
        text = "grid(%d;%d;%s;%s)" % (formula[1], formula[2], parts[0], parts[1])
    elif parts:
        text = (formula[1] if kind == "own" else kind) + "(" + ";".join(parts) + ")"
    else:
        text = formula_text(formula)
    many = chance.choice([0, 0, 1, 2]) if kind not in ("op", "neg") else chance.choice([1, 1, 2, 3])
    return "(" * many + text + ")" * many


def changed_text(chance, text):
    """A text with a sign more, less, another one, or an end that is cut off."""
    at = chance.randrange(len(text) + 1)
    sign = chance.choice("+-*/&=<();:!$#?\"012679ABHabefimnosuy ,'")
    return chance.choice([text[:at] + sign + text[at:], text[:at] + sign + text[at + 1:], text[:at] + text[at + 1:],
                          text[:at]])


class ReaderTest(unittest.TestCase):
    def assert_read(self, text, formula):
        told = read_formula(text)
        self.assertTrue(same(told, formula), (text, told))

    def test_each_text_is_read_back(self):
        for formula, text in SAMPLES:
            self.assert_read(text, formula)
            self.assertIs(is_formula(read_formula(text), 3), True)

    def test_many_are_read_back(self):
        chance = random.Random(6)
        seen = 0
        for k in range(1500):
            formula = some_formula(chance, 6)
            if is_formula(formula, 3):
                seen += 1
                self.assert_read(formula_text(formula), formula)
        self.assertGreater(seen, 700)

    def test_brackets_more(self):
        for formula, text in SAMPLES:
            self.assert_read("(" + text + ")", formula)
            self.assert_read("(((" + text + ")))", formula)
            self.assert_read("-(" + text + ")", neg(formula))
            self.assert_read("f((" + text + ");((a)))", ("own", "f", (formula, A)))
            self.assert_read("(a)*((" + text + "))", op("*", A, formula))

    def test_brackets_around_each_part(self):
        chance = random.Random(7)
        for k in range(1000):
            formula = some_formula(chance, 4)
            if is_formula(formula, 3):
                self.assert_read(bracketed(chance, formula), formula)

    def test_brackets_that_change_the_meaning(self):
        self.assert_read("a-b-c", op("-", op("-", A, B), C))
        self.assert_read("(a-b)-c", op("-", op("-", A, B), C))
        self.assert_read("a-(b-c)", op("-", A, op("-", B, C)))
        self.assert_read("-a*b", op("*", neg(A), B))
        self.assert_read("(-a)*b", op("*", neg(A), B))
        self.assert_read("-(a*b)", neg(op("*", A, B)))
        self.assert_read("a=b&c+a*-b", op("=", A, op("&", B, op("+", C, op("*", A, neg(B))))))
        self.assert_read("-a*b+c&a=b", op("=", op("&", op("+", op("*", neg(A), B), C), A), B))

    def test_sheets_called_like_words(self):
        for word in WORDS:
            self.assert_read(word + "!A1", cell(1, 1, sheet=word))
            self.assert_read(word + "!$A$1:B2", ("range", word, (1, 1, True, True), (2, 2, False, False)))
            self.assert_read(word + "!A:B", ("columns", word, (1, False), (2, False)))
            self.assert_read("sum(" + word + "!A1)", ("sum", cell(1, 1, sheet=word)))
            self.assert_refused(word + "!", len(word) + 1)

    def test_names_that_begin_like_words(self):
        for word in WORDS:
            self.assert_read(word + "x", ("name", word + "x"))
            self.assert_read(word + "x()", ("own", word + "x", ()))
            self.assert_read(word[:-1], ("name", word[:-1]))
            self.assert_read("x" + word, ("name", "x" + word))
            self.assert_read("x" + word + "(1)", ("own", "x" + word, (ONE,)))

    def test_each_cell_and_row_of_a_range(self):
        for row in range(1, 17):
            for column in range(1, 9):
                self.assert_read("ABCDEFGH"[column - 1] + str(row), cell(row, column))
            for last in range(1, 17):
                text = "A%d:B$%d" % (row, last)
                if last >= row:
                    self.assert_read(text, ("range", None, (row, 1, False, False), (last, 2, True, False)))
                else:
                    self.assertRaises(errors.NoText, read_formula, text)

    def test_what_is_told_is_the_same_each_time(self):
        for formula, text in SAMPLES:
            self.assertTrue(same(read_formula(text), read_formula(text)))

    def assert_refused(self, text, at):
        with self.assertRaises(errors.NoText, msg=repr(text)) as taken:
            read_formula(text)
        self.assertEqual(taken.exception.at, at, repr(text))

    def test_wrong_signs(self):
        for text, at in WRONG_SIGNS:
            self.assert_refused(text, at)

    def test_texts_that_end_too_early(self):
        for text in TOO_EARLY:
            self.assert_refused(text, len(text))
            self.assert_refused(text + "\n", len(text))
            self.assert_refused(text + "~", len(text))

    def test_ranges_out_of_order(self):
        for text, at in OUT_OF_ORDER:
            self.assert_refused(text, at)

    def test_words_without_brackets(self):
        for word in WORDS[2:]:
            self.assert_refused(word, len(word))
            self.assert_refused(word + "+1", len(word))
            self.assert_refused("(" + word + ")", len(word) + 1)
            self.assert_refused(word + "()", len(word) + 1)
        for word in WORDS[:2]:
            self.assert_refused(word + "(1)", len(word))

    def test_by_the_grammar_by_hand(self):
        for formula, text in SAMPLES:
            self.assertIsNone(stops_at(text), text)
        for text, at in WRONG_SIGNS + OUT_OF_ORDER:
            self.assertEqual(stops_at(text), at, text)
        for text in TOO_EARLY:
            self.assertEqual(stops_at(text), len(text), text)

    def test_each_sign_behind_each_beginning(self):
        for formula, text in SAMPLES:
            for many, going_on in enumerate(signs_behind(text)):
                for sign in EVERY_SIGN:
                    at = self.place_of_refusal(text[:many] + sign)
                    if sign in going_on:
                        self.assertIn(at, (None, many + 1), text[:many] + sign)
                    else:
                        self.assertEqual(at, many, text[:many] + sign)

    def place_of_refusal(self, text):
        try:
            read_formula(text)
        except errors.NoText as refusal:
            return refusal.at
        return None

    def assert_by_the_grammar(self, text):
        at = stops_at(text)
        if at is None:
            self.assertIs(is_formula(read_formula(text), 3), True, text)
        else:
            self.assert_refused(text, at)

    def test_changed_texts_by_the_grammar(self):
        chance = random.Random(8)
        for k in range(1200):
            text = formula_text(some_formula(chance, 3))
            if len(text) <= 40:
                text = changed_text(chance, text)
                self.assert_by_the_grammar(text)
                self.assert_by_the_grammar(changed_text(chance, text))

    def test_signs_in_any_order_by_the_grammar(self):
        chance = random.Random(9)
        for k in range(4000):
            text = "".join(chance.choice("(1);-+A:$B2!?#\"asumf") for j in range(chance.randint(1, 8)))
            self.assert_by_the_grammar(text)

    def test_too_many_parts(self):
        text = "1" + "+1" * 7
        self.assert_read(text, read_formula("((((((1+1)+1)+1)+1)+1)+1)+1"))
        flat = formula_text(neg(long_sum(12)))
        self.assertEqual(count_parts(read_formula(flat)), 24)
        for formula in (long_sum(13), neg(neg(long_sum(12))), ("own", "f", (long_sum(12), ONE))):
            text = formula_text(formula)
            self.assertLessEqual(deepness(formula), 8)
            self.assert_refused(text, len(text))
            self.assert_refused("(" + text + ")", len(text) + 2)

    def test_too_deep(self):
        self.assert_read("-------1", negs(7))
        self.assert_refused("--------1", 9)
        self.assert_refused("1" + "+1" * 8, 17)
        self.assert_refused("f(" * 8 + "1" + ")" * 8, 25)
        self.assert_read("f(" * 7 + "1" + ")" * 7, read_formula("(f(f(f(f(f(f(f(1))))))))"))

    def test_brackets_make_nothing_deeper(self):
        self.assert_read("(" * 99 + "a" + ")" * 99, A)
        self.assert_read("-" + "(" * 90 + "-----1" + ")" * 90, negs(6))

    def test_a_wrong_sign_in_what_is_too_great(self):
        self.assert_refused("1" + "+1" * 30 + ")", 61)
        self.assert_refused("-" * 50 + "1;", 51)
        self.assert_refused("-" * 50, 50)
        self.assert_refused("1" + "+1" * 30 + "+", 62)
        self.assert_refused("f(" * 50 + "1;2;3;4", 105)

    def test_long_texts(self):
        self.assert_refused("(" * 200, 200)
        self.assert_refused("-" * 200, 200)
        self.assert_refused("-" * 199 + "1", 200)
        self.assert_refused("-(" * 66 + "1" + ")" * 66, 199)
        self.assert_refused("f(" * 100, 200)
        self.assert_refused("sum(" * 49 + "a)))", 200)
        self.assert_refused("(" * 100 + ")" * 100, 100)
        self.assert_refused("a" * 200, 6)
        self.assert_refused("1" * 200, 9)
        self.assert_refused("(" * 5000, 5000)
        self.assert_read("(" * 2500 + "1" + ")" * 2500, ONE)

    def test_numbers(self):
        for whole in (0, 1, 9, 10, 99, 100, 999999999, 100000000):
            self.assert_read(str(whole), number(whole))

    def test_what_is_no_text(self):
        for thing in (None, True, False, 0, 1, 1.5, b"1", b"", (), [], {}, ("gone",), ["1"], ("1",), object()):
            self.assert_refused(thing, 0)


if __name__ == "__main__":
    unittest.main()
