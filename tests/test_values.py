"""Values [5] and the texts that show them [6]."""

import itertools
import math
import re
import unittest

from freshsheet import errors
from freshsheet.values import is_value, read_value, value_text

WORDS = ["kind", "nought", "gone", "name", "shape", "blocked", "miss", "ring", "great"]
THIRTY = 10 ** 30 - 1
THIRTY_ONE = 10 ** 30
CELL = ("main", 3, 2)

SHOWN = [
    (("none",), ""),
    (("number", 0, 1), "0"),
    (("number", 1, 1), "1"),
    (("number", 10, 1), "10"),
    (("number", -1, 1), "-1"),
    (("number", -100, 1), "-100"),
    (("number", 1, 2), "1/2"),
    (("number", -1, 2), "-1/2"),
    (("number", 10, 3), "10/3"),
    (("number", 7, 10), "7/10"),
    (("number", THIRTY, 1), "9" * 30),
    (("number", -THIRTY, 1), "-" + "9" * 30),
    (("number", 1, THIRTY), "1/" + "9" * 30),
    (("number", -THIRTY, THIRTY - 1), "-" + "9" * 30 + "/" + "9" * 29 + "8"),
    (("text", ""), "'"),
    (("text", "a"), "'a"),
    (("text", "az 09"), "'az 09"),
    (("text", " "), "' "),
    (("text", "  a  "), "'  a  "),
    (("text", "yes"), "'yes"),
    (("text", "12"), "'12"),
    (("text", "a" * 20), "'" + "a" * 20),
    (("text", " " * 20), "'" + " " * 20),
    (("text", "abcdefghijklmnopqrst"), "'abcdefghijklmnopqrst"),
    (("text", "uvwxyz0123456789"), "'uvwxyz0123456789"),
    (("truth", True), "yes"),
    (("truth", False), "no"),
    (("fault", "nought", CELL), "!nought main!B3"),
    (("fault", "ring", ("abcdef", 16, 8)), "!ring abcdef!H16"),
    (("fault", "great", ("a", 1, 1)), "!great a!A1"),
] + [(("fault", word, CELL), "!" + word + " main!B3") for word in WORDS]


class Alike:
    """A thing that says that it is the same as any other."""

    def __eq__(self, other):
        return True

    def __hash__(self):
        return 0


class IsValueTest(unittest.TestCase):
    def assert_none(self, *things):
        for thing in things:
            with self.subTest(repr(thing)):
                self.assertIs(is_value(thing), False)

    def test_each_kind(self):
        for value, text in SHOWN:
            with self.subTest(text):
                self.assertIs(is_value(value), True)

    def test_other_things_altogether(self):
        self.assert_none(None, True, False, 0, 1, 1.5, "", "none", "number", b"none", [], {}, set(), (), object(),
                         (None,), (True,), (1,), (1, 2), (("none",),), (("number", 1, 1),), (object(),), (["none"],),
                         ("",), ("None",), ("NONE",), ("nothing",), ("empty",), ("value", ("none",)),
                         ("formula", ("gone",)), Alike(), (Alike(),), (Alike(), 1, 1), is_value, range(3))

    def test_lists_for_tuples(self):
        for value, text in SHOWN:
            self.assert_none(list(value))
        self.assert_none(("fault", "ring", ["main", 3, 2]))

    def test_one_thing_more_or_less(self):
        for value, text in SHOWN:
            self.assert_none(value + (1,), value + (None,), value + ("",), value[:-1])

    def test_kinds_with_the_wrong_thing(self):
        for kind in ("number", "text", "truth", "fault"):
            self.assert_none((kind,), (kind, None), (kind, None, None), (kind, [], []), (kind, {}, {}),
                             (kind, Alike(), CELL), (kind, object(), 1))
        self.assert_none(("none", None), ("none", ""))

    def test_kinds_that_are_none(self):
        for kind in ("", "None", "numbers", "Text", "truths", "faults", "value", "cell"):
            for value, text in SHOWN:
                self.assert_none((kind,) + value[1:])

    def test_numbers_that_are_none(self):
        self.assert_none(("number", 2, 4), ("number", 6, 3), ("number", -6, 4), ("number", 0, 2), ("number", 5, 5),
                         ("number", 0, 0), ("number", 1, 0), ("number", 1, -1), ("number", -1, -2), ("number", 0, -1),
                         ("number", True, 1), ("number", False, 1), ("number", 1, True), ("number", 0, True),
                         ("number", 1.0, 1), ("number", 1, 1.0), ("number", "1", "1"), ("number", 1, None),
                         ("number", (1, 2)), ("number", 1))

    def test_thirty_figures_and_thirty_one(self):
        for top, bottom in ((THIRTY, 1), (-THIRTY, 1), (1, THIRTY), (THIRTY, THIRTY - 1), (-THIRTY, THIRTY - 1)):
            self.assertIs(is_value(("number", top, bottom)), True)
        self.assert_none(("number", THIRTY_ONE, 1), ("number", -THIRTY_ONE, 1), ("number", 1, THIRTY_ONE),
                         ("number", THIRTY_ONE, THIRTY), ("number", THIRTY, THIRTY_ONE),
                         ("number", 10 ** 60 - 1, 1), ("number", 1, 10 ** 60 - 1), ("number", 1, -(10 ** 60 - 1)))

    def test_texts_that_are_none(self):
        self.assertIs(is_value(("text", "a" * 20)), True)
        self.assert_none(("text", "a" * 21), ("text", " " * 21), ("text", "a" * 200))
        for sign in "ABZ_-+'\"!/.,;:%&$#?~`@[{\\|\n\t\r\0\u00e4\u00df\u0661\u00b2\u00a0":
            self.assert_none(("text", sign), ("text", "a" + sign), ("text", sign + "a"))
        self.assert_none(("text", 1), ("text", True), ("text", None), ("text", ("a",)), ("text", ["a"]), ("text", b"a"))

    def test_truths_that_are_none(self):
        self.assert_none(("truth", 0), ("truth", 1), ("truth", "yes"), ("truth", "True"), ("truth", None),
                         ("truth", 1.0), ("truth", (True,)), ("truth", []))

    def test_faults_that_are_none(self):
        for word in ("", "Ring", "RING", "rings", " ring", "ring ", "fault", "none", "zero", "div", "kin",
                     1, True, None, ["ring"], ("ring",), {}):
            self.assert_none(("fault", word, CELL))
        for cell in (("main", 0, 1), ("main", 17, 1), ("main", 1, 0), ("main", 1, 9), ("main", True, 1),
                     ("main", 1, True), ("Main", 1, 1), ("", 1, 1), ("abcdefg", 1, 1), ("main", 1), (1, 1),
                     ("main", 1, 1, 1, 1), "main!B3", None, ["main", 3, 2]):
            self.assert_none(("fault", "ring", cell))

    def test_what_is_handed_in_stays(self):
        thing = ["number", [1], {"a": 1}]
        is_value(thing)
        is_value(tuple(thing))
        self.assertEqual(thing, ["number", [1], {"a": 1}])


class ValueTextsTest(unittest.TestCase):
    def assert_no_text(self, *things):
        for thing in things:
            with self.subTest(repr(thing)):
                with self.assertRaises(errors.NoText) as taken:
                    read_value(thing)
                self.assertEqual(taken.exception.at, 0)
                self.assertIsInstance(taken.exception, errors.SheetError)

    def test_written(self):
        for value, text in SHOWN:
            with self.subTest(text):
                self.assertEqual(value_text(value), text)

    def test_read_back_to_the_same(self):
        for value, text in SHOWN:
            with self.subTest(text):
                told = read_value(text)
                self.assertEqual(told, value)
                self.assertEqual([type(part) for part in told], [type(part) for part in value])
                self.assertIs(is_value(told), True)

    def test_a_number_beyond_the_bound_is_written_all_the_same(self):
        self.assertEqual(value_text(("number", THIRTY_ONE, 1)), "1" + "0" * 30)

    def test_noughts_ahead(self):
        self.assert_no_text("00", "01", "-01", "007", "1/02", "01/2", "00/1", "1/00", "0" * 30 + "1")

    def test_signs_ahead(self):
        self.assert_no_text("-0", "+1", "+0", "--1", "-+1", "1/-2", "1/+2", "-1/-2", "-0/2", "- 1", "-")

    def test_over_nought_and_over_one(self):
        self.assert_no_text("1/0", "0/0", "-1/0", "1/1", "5/1", "-5/1", "0/1", "-0/1")

    def test_not_in_lowest_terms(self):
        self.assert_no_text("2/4", "6/3", "-2/4", "0/2", "5/5", "-6/4", "9" * 30 + "/" + "9" * 30)

    def test_thirty_one_figures(self):
        self.assert_no_text("1" * 31, "-" + "1" * 31, "1/" + "1" * 31, "1" + "0" * 30, "1/1" + "0" * 30,
                            "9" * 60, "1" * 200, "1/" + "3" * 190, "1" * 5000)

    def test_all_short_texts_that_might_be_numbers(self):
        for many in range(1, 6):
            for signs in itertools.product("-/012", repeat=many):
                text = "".join(signs)
                found = re.fullmatch(r"(0|-?[12][012]*)(?:/([12][012]*))?", text)
                top, bottom = (int(found[1]), int(found[2] or 1)) if found else (0, 0)
                if found and "/1" != text[-2:] and math.gcd(top, bottom) == 1:
                    self.assertEqual(read_value(text), ("number", top, bottom))
                    self.assertEqual(value_text(("number", top, bottom)), text)
                else:
                    self.assertRaises(errors.NoText, read_value, text)

    def test_marks_alone_or_elsewhere(self):
        self.assert_no_text("/", "/2", "1/", "1//2", "1/2/3", "-/2", "-1/", "!", "! ", "a'", "1'", "1-", "1!",
                            "\"", "\"a\"", "#", "=", "=1", "?0", "ring main!B3", "main!B3", "1.5", "1e5", "0x1", "1_0",
                            ".5", "1,0")

    def test_words_and_great_letters(self):
        self.assert_no_text("1x", "x1", "1/2x", "-x", "YES", "Yes", "NO", "No", "y", "n", "yesno", "yess",
                            "true", "True", "none", "a", "A", "'A", "'aB", "!Ring main!B3", "!RING main!B3",
                            "!ring Main!B3", "!ring main!b3")

    def test_blanks_where_none_belong(self):
        self.assert_no_text(" ", "  ", " 1", "1 ", "1 /2", "1/ 2", " yes", "yes ", "no ", " 'a", " !ring main!B3",
                            "! ring main!B3", "!ring  main!B3", "!ring main!B3 ", "!ring main! B3", "!ring main !B3",
                            "1\n", "yes\n", "'a\n", "!ring main!B3\n", "\n", "\t")

    def test_texts_of_signs_that_no_text_has(self):
        self.assert_no_text("''", "'a'", "'a_b", "'a-b", "'\u00e4", "'a\tb", "'!", "'/", "'~")
        self.assert_no_text("'" + "a" * 21, "'" + " " * 21, "'" + "a" * 199)

    def test_faults_that_are_none(self):
        self.assert_no_text("!ring", "!ring ", "!ringmain!B3", "!rings main!B3", "!zero main!B3", "! main!B3",
                            "!main!B3", "!ring main", "!ring main!", "!ring main!B0", "!ring main!B17", "!ring main!I1",
                            "!ring main!B03", "!ring B3", "!ring !B3", "!ring abcdefg!B3", "!ring main!B3 x",
                            "!!ring main!B3", "!ring;main!B3", "!ring main!$B$3")

    def test_figures_of_other_scripts(self):
        self.assert_no_text("\u0661", "\u00b2", "1/\u0662", "\uff11", "\u2212" + "1")

    def test_what_is_no_text(self):
        self.assert_no_text(None, True, False, 0, 1, 1.5, b"1", b"", (), [], {}, ("none",), ("number", 1, 1), ["1"],
                            ("1",), object())


if __name__ == "__main__":
    unittest.main()
