"""How a formula is written [10]."""

import random
import unittest

from freshsheet.errors import NoText
from freshsheet.formulas import count_parts
from freshsheet.reader import read_formula
from freshsheet.writer import formula_text
from samples import A, B, C, SAMPLES, neg, negs, op, same, some_formula

LEVELS = {"=": 1, "<": 1, "&": 2, "+": 3, "-": 3, "*": 4, "/": 4}


def bracket_pairs(text):
    """The places of brackets that stand around parts, not behind a word; a text in quotes has no brackets."""
    pairs = []
    begun = []
    for at, sign in enumerate(text):
        if sign == "(":
            begun.append(at)
        if sign == ")":
            first = begun.pop()
            if first == 0 or not text[first - 1].islower():
                pairs.append((first, at))
    return pairs


def read_or_none(text):
    try:
        return read_formula(text)
    except NoText:
        return None


class WriterTest(unittest.TestCase):
    def test_by_hand(self):
        for formula, text in SAMPLES:
            self.assertEqual(formula_text(formula), text)

    def test_each_two_signs(self):
        for one, level in LEVELS.items():
            for other, inner in LEVELS.items():
                left = op(one, op(other, A, B), C)
                right = op(one, A, op(other, B, C))
                plain = "a" + other + "b" + one + "c"
                self.assertEqual(formula_text(left), plain if inner >= level else "(a" + other + "b)" + one + "c")
                plain = "a" + one + "b" + other + "c"
                self.assertEqual(formula_text(right), plain if inner > level else "a" + one + "(b" + other + "c)")

    def test_neg_beside_each_sign(self):
        for sign in LEVELS:
            self.assertEqual(formula_text(op(sign, neg(A), neg(B))), "-a" + sign + "-b")
            self.assertEqual(formula_text(neg(op(sign, A, B))), "-(a" + sign + "b)")

    def test_no_brackets_in_brackets_of_words(self):
        for sign in LEVELS:
            part = op(sign, A, B)
            text = "a" + sign + "b"
            self.assertEqual(formula_text(("own", "f", (part, part))), "f(" + text + ";" + text + ")")
            self.assertEqual(formula_text(("if", part, neg(part), part)),
                             "if(" + text + ";-(" + text + ");" + text + ")")
            self.assertEqual(formula_text(("grid", 1, 2, part, part)), "grid(1;2;" + text + ";" + text + ")")

    def test_no_brackets_that_could_be_left_out(self):
        chance = random.Random(4)
        seen = 0
        for k in range(800):
            formula = some_formula(chance, 5)
            text = formula_text(formula)
            if count_parts(formula) <= 24:
                for first, last in bracket_pairs(text):
                    seen += 1
                    bare = text[:first] + text[first + 1:last] + text[last + 1:]
                    self.assertFalse(same(read_or_none(bare), formula), text)
        self.assertGreater(seen, 200)

    def test_one_text_for_one_formula(self):
        chance = random.Random(5)
        texts = {}
        for k in range(2000):
            formula = some_formula(chance, 3)
            self.assertEqual(texts.setdefault(formula_text(formula), repr(formula)), repr(formula))

    def test_beyond_the_bounds(self):
        self.assertEqual(formula_text(negs(40)), "-" * 40 + "1")
        formula = A
        for k in range(30):
            formula = op("-", A, formula)
        self.assertEqual(formula_text(formula), "a-(" * 29 + "a-a" + ")" * 29)

    def test_what_is_handed_in_stays(self):
        for formula, text in SAMPLES:
            kept = repr(formula)
            self.assertEqual(formula_text(formula), formula_text(formula))
            self.assertEqual(repr(formula), kept)


if __name__ == "__main__":
    unittest.main()
