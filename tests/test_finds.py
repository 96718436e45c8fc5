"""Sums, counts, ends and rows found in tables [17]."""

import random
import unittest
from fractions import Fraction

from freshsheet.finds import counted_up, ends_of, found_at, summed_if, summed_up
from plain import NO, NONE, YES, Reckoner, fault, num, one_of, some_value, text
from samples import same

CELL = ("side", 3, 2)
GREATEST = 10 ** 30 - 1
KIND = fault("kind", CELL)
GREAT = fault("great", CELL)
MISS = fault("miss", CELL)
ONE_FAULT = fault("nought", ("main", 1, 1))
OTHER_FAULT = fault("ring", ("main", 2, 2))
MIXED = ((num(3), NONE, num(1, 2)), (text("7"), YES, num(-2)))
EMPTY = ((NONE, text("a")), (NO, text("")))


def row_of(*values):
    return (values,)


def column_of(*values):
    return tuple((value,) for value in values)


class FindsTest(unittest.TestCase):
    def assert_told(self, told, wanted):
        self.assertTrue(same(told, wanted), (told, wanted))

    def test_sums(self):
        self.assert_told(summed_up(MIXED, CELL), num(3, 2))
        self.assert_told(summed_up(EMPTY, CELL), num(0))
        self.assert_told(summed_up(one_of(NONE), CELL), num(0))
        self.assert_told(summed_up(one_of(num(-7, 3)), CELL), num(-7, 3))
        self.assert_told(summed_up(row_of(num(1, 2), num(1, 3), num(1, 6)), CELL), num(1))
        self.assert_told(summed_up(column_of(num(1, 2), num(-1, 2)), CELL), num(0))
        self.assert_told(summed_up(row_of(num(0), num(0)), CELL), num(0))

    def test_great_sums(self):
        self.assert_told(summed_up(row_of(num(GREATEST - 1), num(1)), CELL), num(GREATEST))
        self.assert_told(summed_up(row_of(num(GREATEST), num(1)), CELL), GREAT)
        self.assert_told(summed_up(row_of(num(-GREATEST), num(-1)), CELL), GREAT)
        self.assert_told(summed_up(row_of(num(1, 10 ** 29), num(1, 10 ** 29 + 1)), CELL), GREAT)
        self.assert_told(summed_up(row_of(num(GREATEST), num(GREATEST), num(-GREATEST)), CELL), num(GREATEST))
        parts = [num(1, 10 ** 29 + 1), num(1, 10 ** 29), num(-1, 10 ** 29 + 1)]
        self.assert_told(summed_up(row_of(*parts), CELL), num(1, 10 ** 29))
        self.assert_told(summed_up(row_of(num(10 ** 29), num(1, 10 ** 3)), CELL), GREAT)

    def test_sums_of_great_and_unlike_bottoms(self):
        chance = random.Random(18)
        values = [num(chance.randrange(10 ** 29), chance.randrange(10 ** 29, 10 ** 30)) for k in range(200)]
        self.assert_told(summed_up(row_of(*values), CELL), GREAT)
        back = [num(-value[1], value[2]) for value in values]
        chance.shuffle(back)
        self.assert_told(summed_up((tuple(values), tuple(back)), CELL), num(0))
        self.assert_told(summed_up((tuple(values), tuple(back[:-1] + [num(5)])), CELL), GREAT)
        self.assert_told(summed_up(column_of(*values, num(7, 9), *back), CELL), num(7, 9))

    def test_counts(self):
        self.assert_told(counted_up(MIXED), num(3))
        self.assert_told(counted_up(EMPTY), num(0))
        self.assert_told(counted_up(one_of(num(0))), num(1))
        self.assert_told(counted_up(((num(5),) * 8,) * 16), num(128))

    def test_ends(self):
        self.assert_told(ends_of(MIXED, False), num(-2))
        self.assert_told(ends_of(MIXED, True), num(3))
        self.assert_told(ends_of(EMPTY, False), NONE)
        self.assert_told(ends_of(EMPTY, True), NONE)
        close = row_of(num(1, 3), num(333333, 10 ** 6), num(333334, 10 ** 6), text("0"), NONE)
        self.assert_told(ends_of(close, False), num(333333, 10 ** 6))
        self.assert_told(ends_of(close, True), num(333334, 10 ** 6))
        below = column_of(num(-1, 2), num(-3), NONE, num(-1, 3))
        self.assert_told(ends_of(below, False), num(-3))
        self.assert_told(ends_of(below, True), num(-1, 3))
        for most in (False, True):
            self.assert_told(ends_of(one_of(num(5, 7)), most), num(5, 7))
            self.assert_told(ends_of(row_of(num(2), num(2)), most), num(2))

    def test_the_first_fault_comes(self):
        table = ((num(1), text("a")), (NONE, ONE_FAULT), (OTHER_FAULT, num(GREATEST)))
        turned = tuple(zip(*table))
        for told, wanted in ((table, ONE_FAULT), (turned, OTHER_FAULT), (one_of(ONE_FAULT), ONE_FAULT),
                             (((num(GREATEST), num(GREATEST)), (num(1), OTHER_FAULT)), OTHER_FAULT)):
            self.assert_told(summed_up(told, CELL), wanted)
            self.assert_told(counted_up(told), wanted)
            self.assert_told(ends_of(told, False), wanted)
            self.assert_told(ends_of(told, True), wanted)

    def test_summed_if_alike(self):
        keys = ((num(1), text("a"), NONE), (YES, num(1), num(2)))
        values = ((num(1), num(2), num(4)), (num(8), num(16), num(32)))
        for value, wanted in ((num(1), 17), (text("a"), 2), (NONE, 4), (YES, 8), (num(2), 32), (num(0), 0), (NO, 0),
                              (text(""), 0), (text("1"), 0)):
            self.assert_told(summed_if(keys, "=", value, values, CELL), num(wanted))

    def test_summed_if_less(self):
        keys = ((num(1), text("a"), NONE), (YES, num(-1), num(2)))
        values = ((num(1), num(2), num(4)), (num(8), num(16), num(32)))
        for value, wanted in ((num(1), 20), (num(3), 53), (NONE, 16), (text("b"), 2), (text("a"), 0), (num(1, 2), 20),
                              (num(-5), 0), (YES, 0), (NO, 0), (text(""), 0)):
            self.assert_told(summed_if(keys, "<", value, values, CELL), num(wanted))

    def test_summed_if_with_faults(self):
        keys = row_of(num(1), ONE_FAULT, num(2), OTHER_FAULT)
        values = row_of(num(1), num(2), num(4), num(8))
        self.assert_told(summed_if(keys, "=", num(1), values, CELL), num(1))
        self.assert_told(summed_if(keys, "<", num(9), values, CELL), num(5))
        self.assert_told(summed_if(keys, "<", text("a"), values, CELL), num(0))
        for sign in "=<":
            self.assert_told(summed_if(keys, sign, ONE_FAULT, values, CELL), ONE_FAULT)
            self.assert_told(summed_if(keys, sign, OTHER_FAULT, values, CELL), OTHER_FAULT)
            self.assert_told(summed_if(values, sign, OTHER_FAULT, keys, CELL), OTHER_FAULT)

    def test_summed_if_with_faults_among_the_summed(self):
        keys = ((num(1), num(2)), (num(1), num(3)), (num(1), num(1)))
        values = ((num(1), ONE_FAULT), (num(4), fault("gone")), (OTHER_FAULT, ONE_FAULT))
        self.assert_told(summed_if(keys, "=", num(1), values, CELL), OTHER_FAULT)
        self.assert_told(summed_if(keys, "=", num(2), values, CELL), ONE_FAULT)
        self.assert_told(summed_if(keys, "<", num(3), values, CELL), ONE_FAULT)
        self.assert_told(summed_if(keys, "=", num(4), values, CELL), num(0))
        self.assert_told(summed_if(keys[:2], "=", num(1), values[:2], CELL), num(5))

    def test_summed_if_sums_numbers_alone(self):
        values = row_of(num(5), text("a"), NONE, YES)
        self.assert_told(summed_if(row_of(*[num(1)] * 4), "=", num(1), values, CELL), num(5))
        self.assert_told(summed_if(row_of(*[num(1)] * 3), "<", num(2), row_of(text("a"), NONE, NO), CELL), num(0))
        self.assert_told(summed_if(row_of(num(1), num(1)), "=", num(1), row_of(num(GREATEST), num(1)), CELL), GREAT)
        self.assert_told(summed_if(row_of(num(1), num(2)), "=", num(1), row_of(num(GREATEST), num(1)), CELL),
                         num(GREATEST))

    def test_found(self):
        table = ((num(1), text("one")), (text("b"), ONE_FAULT), (num(1), YES), (NONE, num(4)), (NO, NONE),
                 (OTHER_FAULT, num(9)))
        self.assert_told(found_at(num(1), table, num(2), CELL), text("one"))
        self.assert_told(found_at(num(1), table, num(1), CELL), num(1))
        self.assert_told(found_at(text("b"), table, num(2), CELL), ONE_FAULT)
        self.assert_told(found_at(text("b"), table, num(1), CELL), text("b"))
        self.assert_told(found_at(NONE, table, num(2), CELL), num(4))
        self.assert_told(found_at(NO, table, num(2), CELL), NONE)
        self.assert_told(found_at(num(4), one_of(num(4)), num(1), CELL), num(4))
        self.assert_told(found_at(num(5, 7), ((num(5), num(1)), (num(5, 7), num(2))), num(2), CELL), num(2))

    def test_nothing_found(self):
        table = ((num(1), text("one"), num(7)), (text("0"), YES, num(8)))
        for key in (num(0), num(7), NONE, text("one"), text(""), YES, NO, num(1, 2)):
            self.assert_told(found_at(key, table, num(3), CELL), MISS)
        self.assert_told(found_at(num(0), ((NONE,), (NO,), (text("0"),)), num(1), CELL), MISS)
        self.assert_told(found_at(NONE, ((num(0),), (text(""),)), num(1), CELL), MISS)

    def test_found_at_no_column(self):
        table = ((num(1), text("one"), num(7)), (num(2), YES, num(8)))
        for key in (num(1), num(5)):
            for column in (num(0), num(4), num(-1), num(3, 2), num(1, 2), NONE, YES, text("1"), text(""),
                           num(GREATEST)):
                self.assert_told(found_at(key, table, column, CELL), KIND)
        self.assert_told(found_at(num(1), table, num(3), CELL), num(7))
        self.assert_told(found_at(num(1), one_of(num(1)), num(2), CELL), KIND)

    def test_found_by_a_fault(self):
        table = ((ONE_FAULT, num(1)), (num(5), num(2)))
        self.assert_told(found_at(ONE_FAULT, table, num(2), CELL), ONE_FAULT)
        self.assert_told(found_at(ONE_FAULT, table, OTHER_FAULT, CELL), ONE_FAULT)
        self.assert_told(found_at(OTHER_FAULT, table, NONE, CELL), OTHER_FAULT)
        self.assert_told(found_at(num(5), table, OTHER_FAULT, CELL), OTHER_FAULT)
        self.assert_told(found_at(num(7), table, OTHER_FAULT, CELL), OTHER_FAULT)
        self.assert_told(found_at(num(5), table, num(2), CELL), num(2))

    def test_tables_made_by_chance(self):
        chance = random.Random(19)
        plain = Reckoner(CELL, None, None)
        for k in range(1500):
            high, wide = chance.randint(1, 4), chance.randint(1, 3)
            values = [num(k) for k in range(4)] + [some_value(chance) for k in range(chance.choice([0, 2, 6]))]
            one, other = [tuple(tuple(chance.choice(values) for j in range(wide)) for i in range(high))
                          for k in range(2)]
            flat = [value for row in one for value in row]
            self.assert_told(summed_up(one, CELL), plain.ended("sum", flat))
            self.assert_told(counted_up(one), plain.ended("count", flat))
            self.assert_told(ends_of(one, False), plain.ended("least", flat))
            self.assert_told(ends_of(one, True), plain.ended("most", flat))
            key, column, sign = chance.choice(values), chance.choice(values), chance.choice("=<")
            self.assert_told(found_at(key, one, column, CELL), plain.found(key, one, column))
            self.assert_told(summed_if(one, sign, key, other, CELL),
                             plain.single(("sumif", None, sign), [one, one_of(key), other]))

    def test_sums_of_many_numbers(self):
        chance = random.Random(20)
        for k in range(100):
            fractions = [Fraction(chance.randint(-99, 99), chance.randint(1, 12)) for k in range(128)]
            total = sum(fractions)
            table = tuple(tuple(num(part) for part in fractions[first:first + 8]) for first in range(0, 128, 8))
            self.assert_told(summed_up(table, CELL), num(total))


if __name__ == "__main__":
    unittest.main()
