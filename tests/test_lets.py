"""Rows of names that a rule lets by."""

import itertools
import unittest

from helper import BOUNDS, is_from_to, let_plainly
from pathshape.rules import lets

ORDERS = ["row", "mix"]


def rule_of(order, *items):
    """A rule by its items' names, lows and highs: "a", 0, 1, "b", 2, None."""
    return ("x", "k", order, tuple(zip(items[::3], items[1::3], items[2::3])))


def rows_of(letters, longest):
    return [list(row) for length in range(longest + 1) for row in itertools.product(letters, repeat=length)]


class LetsTest(unittest.TestCase):
    def assert_lets(self, rule, *rows):
        for row in rows:
            self.assertIs(lets(rule, row.split()), True, (rule, row))

    def assert_lets_not(self, rule, *rows):
        for row in rows:
            self.assertIs(lets(rule, row.split()), False, (rule, row))

    def test_a_rule_without_items(self):
        for order in ORDERS:
            self.assert_lets(rule_of(order), "")
            self.assert_lets_not(rule_of(order), "a", "x", "k", "a a", "a b")

    def test_each_low_and_high_of_one_item(self):
        for order in ORDERS:
            for low, high in BOUNDS:
                for count in [0, 1, 2, 3, 4, 99, 100, 130]:
                    self.assertIs(lets(rule_of(order, "a", low, high), ["a"] * count), is_from_to(count, low, high),
                                  (order, low, high, count))

    def test_a_row_has_its_items_in_their_order(self):
        rule = rule_of("row", "a", 1, 2, "b", 0, None, "c", 1, 1)
        self.assert_lets(rule, "a c", "a a c", "a b c", "a b b b b c", "a a b c")
        self.assert_lets_not(rule, "", "a", "c", "b", "c a", "a a a c", "a c c", "b a c", "a b a c", "a c b", "a b",
                             "b c", "a b c b", "a c d", "d a c", "a d c")

    def test_a_mix_has_its_items_in_any_order(self):
        rule = rule_of("mix", "a", 1, 2, "b", 0, None, "c", 1, 1)
        self.assert_lets(rule, "a c", "c a", "a c a", "b a b c b", "c b a", "b b b b a c", "a b a b c b b")
        self.assert_lets_not(rule, "", "a", "c", "b", "a a a c", "a a c a", "a c c", "c a c", "b b", "b c", "a b",
                             "a c d", "d a c", "a d c")

    def test_another_order(self):
        row = rule_of("row", "b", 1, 1, "a", 1, 1)
        self.assert_lets(row, "b a")
        self.assert_lets_not(row, "a b", "b", "a", "b a b", "a b a")
        self.assert_lets(rule_of("mix", "b", 1, 1, "a", 1, 1), "b a", "a b")

    def test_one_too_many_or_too_few(self):
        for order in ORDERS:
            rule = rule_of(order, "a", 2, 2, "b", 1, 2)
            self.assert_lets(rule, "a a b", "a a b b")
            self.assert_lets_not(rule, "a b", "a a a b", "a a", "a a b b b")

    def test_none_of_an_item_with_0_and_0(self):
        for order in ORDERS:
            rule = rule_of(order, "a", 0, 0, "b", 0, 1)
            self.assert_lets(rule, "", "b")
            self.assert_lets_not(rule, "a", "a b", "b a", "a a")

    def test_a_name_that_no_item_has(self):
        for order in ORDERS:
            for low, high in BOUNDS:
                rule = rule_of(order, "a", low, high)
                self.assert_lets_not(rule, "b", "a b", "b a", "a a b", "a b a", "x", "k", "aa", "row", "mix")

    def test_names_of_several_signs(self):
        rule = rule_of("row", "ab", 1, 1, "a", 0, 1, "b", 0, None)
        self.assert_lets(rule, "ab", "ab a", "ab b b", "ab a b b b")
        self.assert_lets_not(rule, "a b", "a", "b", "ab ab", "a ab", "ab b a", "abab", "abcdefgh")

    def test_all_pairs_of_items_against_the_plain_words(self):
        rows = rows_of("abc", 4)
        for order in ORDERS:
            for (low, high), (least, most) in itertools.product(BOUNDS, BOUNDS):
                rule = rule_of(order, "a", low, high, "b", least, most)
                for row in rows:
                    self.assertIs(lets(rule, row), let_plainly(rule, row), (rule, row))

    def test_some_threes_of_items_against_the_plain_words(self):
        rows = rows_of("abc", 5)
        for order in ORDERS:
            for some in [(0, 3, 6), (3, 0, 8), (2, 4, 3), (3, 3, 3), (7, 1, 5), (6, 8, 2), (5, 3, 4), (8, 6, 8)]:
                rule = rule_of(order, "a", *BOUNDS[some[0]], "b", *BOUNDS[some[1]], "c", *BOUNDS[some[2]])
                for row in rows:
                    self.assertIs(lets(rule, row), let_plainly(rule, row), (rule, row))

    def test_rows_of_a_hundred_names(self):
        row = rule_of("row", "a", 1, None, "b", 0, None, "c", 1, 2)
        mix = rule_of("mix", "a", 1, None, "b", 0, None, "c", 1, 2)
        for names in [["a"] * 50 + ["b"] * 49 + ["c"], ["a"] * 98 + ["c"] * 2, ["a"] + ["b"] * 97 + ["c"] * 2]:
            self.assertIs(lets(row, names), True)
            self.assertIs(lets(mix, names), True)
            self.assertIs(lets(row, names[::-1]), False)
            self.assertIs(lets(mix, names[::-1]), True)
        for names in [["a", "b"] * 49 + ["c", "c"], ["b"] + ["a"] * 98 + ["c"]]:
            self.assertIs(lets(row, names), False)
            self.assertIs(lets(mix, names), True)
        for names in [["a"] * 100, ["b"] * 99 + ["c"], ["a"] * 97 + ["c"] * 3, ["a"] * 98 + ["d", "c"]]:
            self.assertIs(lets(row, names), False)
            self.assertIs(lets(mix, names), False)

    def test_rows_somewhat_longer_and_more_items(self):
        rule = rule_of("row", "a", 0, None, "b", 2, 2, "c", 0, 1, "d", 1, None, "e", 0, None)
        self.assertIs(lets(rule, ["a"] * 100 + ["b", "b"] + ["d"] * 200), True)
        self.assertIs(lets(rule, ["a"] * 100 + ["b", "b"] + ["d"] * 200 + ["c"]), False)
        mix = rule_of("mix", "a", 0, None, "b", 2, 2, "c", 0, 1, "d", 1, None, "e", 0, None)
        self.assertIs(lets(mix, ["e", "d", "a"] * 100 + ["b", "b", "c"]), True)
        self.assertIs(lets(mix, ["e", "d", "a"] * 100 + ["b", "c"]), False)

    def test_the_names_stay_as_they_are(self):
        for order in ORDERS:
            for names in [[], ["a"], ["b", "a"], ["a", "a", "b"]]:
                kept = list(names)
                rule = rule_of(order, "a", 1, None, "b", 0, 1)
                first = lets(rule, names)
                self.assertEqual(names, kept)
                self.assertIs(lets(rule, names), first)
        names = ["a"]
        rule = rule_of("row", "a", 1, 1)
        self.assertIs(lets(rule, names), True)
        names.append("a")
        self.assertIs(lets(rule, names), False)


if __name__ == "__main__":
    unittest.main()
