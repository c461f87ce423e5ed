"""One more place: what a rule and rows of sorts give."""

import copy
import itertools
import random
import unittest

from helper import ANY, BOUNDS, PlainCase, let_plainly, reordered, some_look
from pathshape.masks import mask_of
from pathshape.sums import made_by
from pathshape.table import table_of

A = ("kind", "a")
B = ("kind", "b")
MARK = ("mark",)


def below_of(rows, row):
    """The masks of a row of sorts put together, each with those of the later ones as its beside."""
    beside = 0
    for name, kind, mark, below in reversed(row):
        beside |= mask_of(rows, kind, mark == 1, below, beside)
    return beside


def given_plainly(rows, rule, row, marks):
    """The sorts that a rule and one row of sorts give."""
    own = [sort for sort in row if sort[2] != 0]
    if len(own) > 1 or not let_plainly(rule, [sort[0] for sort in row]):
        return []
    numbers = [2] if own else [0, 1] if marks else [0]
    return [(rule[0], rule[1], number, below_of(rows, row)) for number in numbers]


def longest_needed(rows, rule):
    """No least row has more parts: one above the lows sets a bit or has the mark, or it could be left out."""
    return sum(low for name, low, high in rule[3]) + len(rows) + 1


def made_plainly(rows, rule, sorts, marks=True):
    """All that comes of all rows of sorts, gone through one by one."""
    made = {}
    for length in range(longest_needed(rows, rule) + 1):
        for row in itertools.product(list(sorts), repeat=length):
            size = 1 + sum(sorts[sort] for sort in row)
            for sort in given_plainly(rows, rule, row, marks):
                made[sort] = min(size, made.get(sort, size))
    return made


def some_rule(chance):
    names = chance.sample("pqr", chance.choice([0, 1, 1, 2, 2, 3]))
    items = tuple((name, *chance.choice(BOUNDS)) for name in names)
    return ("x", "k", chance.choice(["row", "mix"]), items)


def some_rows(chance, steps):
    while True:
        rows, look = table_of(some_look(chance, 4, (ANY, A, B, MARK)))
        if len(rows) <= steps:
            return reordered(rows, look, chance.sample(range(len(rows)), len(rows)))[0]


def some_sorts(chance, rows, count, marks=(0, 0, 1, 2), names="pqrz"):
    return {(chance.choice(names), chance.choice("ab"), chance.choice(marks), chance.randrange(1 << len(rows))):
            chance.choice([1, 2, 3, 5, 7, 40, 10 ** 29]) for number in range(count)}


class MadeByCase(PlainCase):
    def assert_made(self, rows, rule, sorts, made, *marks):
        kept = copy.deepcopy(sorts)
        told = made_by(rows, rule, sorts, *marks)
        self.assertEqual(told, made, (rows, rule, sorts, marks))
        self.assertEqual((sorts, list(sorts)), (kept, list(kept)))
        self.assertIs(type(told), dict)
        for sort, size in told.items():
            self.assert_plain(sort)
            self.assertEqual([type(part) for part in sort], [str, str, int, int])
            self.assertIs(type(size), int)


class SmallTest(MadeByCase):
    def test_a_rule_without_items(self):
        for order in ["row", "mix"]:
            rule = ("x", "k", order, ())
            for sorts in [{}, {("p", "a", 0, 0): 3}, {("x", "k", 0, 0): 1, ("x", "k", 2, 0): 1}]:
                both = {("x", "k", 0, 0): 1, ("x", "k", 1, 0): 1}
                self.assert_made((), rule, sorts, both)
                self.assert_made((), rule, sorts, both, True)
            self.assert_made((), rule, {}, {("x", "k", 0, 0): 1}, False)

    def test_no_sorts(self):
        for order, (low, high) in itertools.product(["row", "mix"], BOUNDS):
            rule = ("x", "k", order, (("p", low, high), ("q", 0, 1)))
            made = {("x", "k", 0, 0): 1, ("x", "k", 1, 0): 1} if low == 0 else {}
            self.assert_made((), rule, {}, made)

    def test_names_that_no_item_has(self):
        sorts = {("q", "a", 0, 0): 1, ("x", "a", 1, 0): 1, ("k", "a", 0, 0): 1, ("a", "p", 0, 0): 1}
        for order, (low, high) in itertools.product(["row", "mix"], BOUNDS):
            made = {("x", "k", 0, 0): 1, ("x", "k", 1, 0): 1} if low == 0 else {}
            self.assert_made((), ("x", "k", order, (("p", low, high),)), sorts, made)

    def test_each_low_and_high_of_one_item(self):
        rows = (("down", A, None),)
        for order, (low, high) in itertools.product(["row", "mix"], BOUNDS):
            made = {}
            if low == 0:
                made[("x", "k", 0, 0)] = made[("x", "k", 1, 0)] = 1
            if high is None or high > 0:
                made[("x", "k", 0, 1)] = made[("x", "k", 1, 1)] = 1 + 5 * max(low, 1)
            self.assert_made(rows, ("x", "k", order, (("p", low, high),)), {("p", "a", 0, 0): 5}, made)

    def test_none_of_an_item_with_0_and_0(self):
        rule = ("x", "k", "mix", (("p", 0, 0), ("q", 1, 1)))
        self.assert_made((), rule, {("p", "a", 2, 0): 1, ("q", "a", 0, 0): 4},
                         {("x", "k", 0, 0): 5, ("x", "k", 1, 0): 5})

    def test_marks(self):
        rule = ("x", "k", "row", (("p", 1, 2),))
        self.assert_made((), rule, {("p", "a", 0, 0): 3}, {("x", "k", 0, 0): 4, ("x", "k", 1, 0): 4})
        self.assert_made((), rule, {("p", "a", 1, 0): 3}, {("x", "k", 2, 0): 4})
        self.assert_made((), rule, {("p", "a", 2, 0): 3}, {("x", "k", 2, 0): 4})
        self.assert_made((), rule, {("p", "a", 2, 0): 3, ("p", "a", 1, 0): 2, ("p", "a", 0, 0): 9},
                         {("x", "k", 0, 0): 10, ("x", "k", 1, 0): 10, ("x", "k", 2, 0): 3})

    def test_at_most_one_part_with_a_mark(self):
        rule = ("x", "k", "mix", (("p", 2, 2),))
        for first, second in itertools.product([1, 2], [1, 2]):
            self.assert_made((), rule, {("p", "a", first, 0): 1, ("p", "b", second, 0): 1}, {})
        self.assert_made((), rule, {("p", "a", 1, 0): 1, ("p", "b", 0, 0): 7},
                         {("x", "k", 0, 0): 15, ("x", "k", 1, 0): 15, ("x", "k", 2, 0): 9})

    def test_the_mark_is_looked_at_where_the_top_of_a_part_has_it(self):
        rows = (("down", MARK, None),)
        rule = ("x", "k", "row", (("p", 1, 1),))
        self.assert_made(rows, rule, {("p", "a", 1, 0): 1}, {("x", "k", 2, 1): 2})
        self.assert_made(rows, rule, {("p", "a", 2, 0): 1}, {("x", "k", 2, 0): 2})
        self.assert_made(rows, rule, {("p", "a", 2, 1): 1}, {("x", "k", 2, 0): 2})
        self.assert_made((("deep", MARK, None),), rule, {("p", "a", 2, 1): 1}, {("x", "k", 2, 1): 2})

    def test_marks_left_out(self):
        rows = (("down", A, None),)
        rule = ("x", "k", "row", (("p", 0, 1),))
        sorts = {("p", "a", 0, 0): 3}
        self.assert_made(rows, rule, sorts, {("x", "k", 0, 0): 1, ("x", "k", 0, 1): 4}, False)
        self.assert_made(rows, rule, sorts, {("x", "k", 0, 0): 1, ("x", "k", 0, 1): 4,
                                             ("x", "k", 1, 0): 1, ("x", "k", 1, 1): 4}, True)
        self.assertEqual(made_by(rows, rule, sorts, marks=False), made_by(rows, rule, sorts, False))

    def test_the_order_of_parts(self):
        rows = (("later", B, None), ("down", A, 0))
        for order in ["row", "mix"]:
            rule = ("x", "k", order, (("p", 1, 1), ("q", 1, 1)))
            first = {("p", "a", 0, 0): 2, ("q", "b", 0, 0): 3}
            self.assert_made(rows, rule, first, {("x", "k", 0, 3): 6} if order == "row" else {
                ("x", "k", 0, 3): 6, ("x", "k", 0, 1): 6}, False)
            second = {("p", "b", 0, 0): 2, ("q", "a", 0, 0): 3}
            self.assert_made(rows, rule, second, {("x", "k", 0, 1): 6} if order == "row" else {
                ("x", "k", 0, 3): 6, ("x", "k", 0, 1): 6}, False)

    def test_the_least_size(self):
        rows = (("down", A, None), ("down", B, None))
        rule = ("x", "k", "mix", (("p", 0, None),))
        sorts = {("p", "a", 0, 0): 9, ("p", "a", 0, 1): 4, ("p", "a", 0, 2): 7, ("p", "b", 0, 3): 6, ("p", "b", 0, 0): 5}
        self.assert_made(rows, rule, sorts, {("x", "k", 0, 0): 1, ("x", "k", 0, 1): 5, ("x", "k", 0, 2): 6,
                                             ("x", "k", 0, 3): 10}, False)


class ManyPartsTest(MadeByCase):
    def test_six_different_sorts_in_one_row(self):
        rows = tuple(("down", ("kind", kind), None) for kind in "abcdef")
        sorts = {("p", kind, 0, 0): 1 << k for k, kind in enumerate("abcdef")}
        for order in ["row", "mix"]:
            made = {("x", "k", 0, bits): 1 + bits for bits in range(64)}
            self.assert_made(rows, ("x", "k", order, (("p", 0, None),)), sorts, made, False)
            self.assert_made(rows, ("x", "k", order, (("p", 2, None),)), sorts, {
                ("x", "k", 0, bits): 1 + bits + (bits if bits.bit_count() == 1 else 0) for bits in range(1, 64)}, False)

    def test_six_different_sorts_in_one_order(self):
        # A step to a, and from there by later brothers b, c, d, e, f.
        rows = tuple(("down" if j == 5 else "later", ("kind", "fedcba"[j]), j - 1 if j else None) for j in range(6))
        sorts = {("p", kind, 0, 0): 10 ** k for k, kind in enumerate("abcdef")}
        for order in ["row", "mix"]:
            told = made_by(rows, ("x", "k", order, (("p", 0, None),)), sorts)
            self.assertEqual(told[("x", "k", 0, 63)], 111112)
            self.assertEqual(told[("x", "k", 1, 63)], 111112)
            self.assertEqual(told[("x", "k", 0, 1)], 100001)
            self.assertEqual(told[("x", "k", 0, 3)], 110001)
            self.assertEqual(sorted(told), [("x", "k", mark, (1 << count) - 1) for mark in [0, 1]
                                            for count in range(7)])

    def test_one_sort_over_and_over(self):
        rows = tuple(("later" if j else "down", A, j + 1 if j < 5 else None) for j in range(6))
        sorts = {("p", "a", 0, 0): 3, ("q", "b", 0, 0): 1}
        told = made_by(rows, ("x", "k", "row", (("q", 1, None), ("p", 0, None))), sorts)
        # So many of a behind b: the last ones of the way are hit first.
        self.assertEqual({sort[3]: size for sort, size in told.items()},
                         {(1 << 6) - (1 << 6 - count): 2 + 3 * count for count in range(7)})

    def test_rows_beyond_six(self):
        kinds = "abcdefghij"
        rows = tuple(("down", ("kind", kind), None) for kind in kinds)
        sorts = {("p", kind, 0, 0): 2 for kind in kinds}
        told = made_by(rows, ("x", "k", "mix", (("p", 0, None),)), sorts)
        self.assertEqual(told[("x", "k", 1, 1023)], 21)
        self.assertEqual(len(told), 2048)

    def test_two_of_each_of_three_items(self):
        rows = (("later", A, None), ("down", B, 0))
        for order in ["row", "mix"]:
            rule = ("x", "k", order, (("p", 2, 2), ("q", 2, 2), ("r", 2, 2)))
            sorts = {("p", "a", 0, 0): 1, ("q", "b", 0, 0): 10, ("r", "c", 0, 0): 100, ("r", "c", 2, 0): 50}
            made = {("x", "k", mark, 1): 173 if mark == 2 else 223 for mark in range(3)}
            if order == "mix":
                made.update({("x", "k", mark, 3): 173 if mark == 2 else 223 for mark in range(3)})
            self.assert_made(rows, rule, sorts, made)


class GreatTest(MadeByCase):
    def test_sizes_of_thirty_figures(self):
        great = 10 ** 30 - 1
        rows = (("down", A, None), ("down", B, None))
        rule = ("x", "k", "mix", (("p", 0, None), ("q", 2, 2)))
        sorts = {("p", "a", 0, 0): great, ("p", "b", 0, 0): great - 1, ("q", "c", 0, 0): great - 2, ("q", "c", 2, 0): 7}
        self.assert_made(rows, rule, sorts, {
            ("x", "k", mark, bits): 1 + [0, great, great - 1, 2 * great - 1][bits]
            + (great - 2 + 7 if mark == 2 else 2 * great - 4) for mark in range(3) for bits in range(4)})

    def test_sixty_sorts(self):
        chance = random.Random(50)
        for number in range(12):
            rows = tuple((chance.choice(["down", "deep", "later"]), some_look(chance, 1, (
                ANY, A, B, MARK, ("from", 1), ("not", ("from", 4)))), chance.choice([None, 0, 3, 5])) for j in range(6))
            sorts = {}
            while len(sorts) < 60:
                sorts[(chance.choice("pqr"), chance.choice("abc"), chance.choice([0, 0, 1, 2]), chance.randrange(64))] = (
                    chance.randrange(1, 10 ** 30))
            for bounds in [(2, None), (2, 2), (0, None), (1, 2)]:
                rule = ("x", "k", chance.choice(["row", "mix"]), tuple((name, *bounds) for name in "pqr"))
                told = made_by(rows, rule, sorts)
                self.assert_not_below_some_rows(chance, rows, rule, sorts, told)

    def assert_not_below_some_rows(self, chance, rows, rule, sorts, told):
        self.assertEqual({sort[:2] for sort in told}, {("x", "k")})
        for number in range(200):
            names = [name for name, low, high in rule[3] for k in range(chance.randrange(low, (high or 3) + 1))]
            row = [chance.choice([sort for sort in sorts if sort[0] == name]) for name in names]
            for sort in given_plainly(rows, rule, row, True):
                self.assertLessEqual(told[sort], 1 + sum(sorts[part] for part in row))

    def test_forty_looks_in_each_row(self):
        look = ("from", 2)
        for number in range(13):
            look = ("both", ("not", look), ANY)
        rows = tuple((go, look, rest) for go in ["down", "deep", "later"] for rest in [None, 4])
        sorts = {("p", kind, 0, below): 5 for kind in "ab" for below in range(0, 64, 3)}
        told = made_by(rows, ("x", "k", "mix", (("p", 0, None),)), sorts)
        self.assertEqual(told[("x", "k", 0, 0)], 1)


class PlainWordsTest(MadeByCase):
    def assert_plainly(self, rows, rule, sorts, *marks):
        self.assert_made(rows, rule, sorts, made_plainly(rows, rule, sorts, *marks), *marks)

    def test_each_low_and_high_of_two_items(self):
        rows = (("later", A, None), ("down", B, 0))
        sorts = {("p", "a", 0, 0): 2, ("q", "b", 0, 1): 3, ("q", "a", 1, 0): 1}
        for order, first, second in itertools.product(["row", "mix"], BOUNDS, BOUNDS):
            self.assert_plainly(rows, ("x", "k", order, (("p", *first), ("q", *second))), sorts)

    def test_some_rules_and_sorts(self):
        chance = random.Random(51)
        for number in range(400):
            rule = some_rule(chance)
            rows = some_rows(chance, 2)
            count = 2 if longest_needed(rows, rule) > 6 else 3 if longest_needed(rows, rule) > 4 else 5
            self.assert_plainly(rows, rule, some_sorts(chance, rows, chance.randrange(count + 1)))

    def test_some_rules_and_sorts_without_marks(self):
        chance = random.Random(52)
        for number in range(200):
            rule = some_rule(chance)
            rows = some_rows(chance, 2)
            count = 2 if longest_needed(rows, rule) > 6 else 3
            self.assert_plainly(rows, rule, some_sorts(chance, rows, chance.randrange(count + 1), (0,)), False)

    def test_longer_tables(self):
        chance = random.Random(53)
        for number in range(60):
            rows = some_rows(chance, 4)
            rule = ("x", "k", chance.choice(["row", "mix"]), (("p", 0, chance.choice([1, 2, None])), ("q", 0, None)))
            self.assert_plainly(rows, rule, some_sorts(chance, rows, 4, names="pq"))


class OwnTest(MadeByCase):
    def test_what_is_told_is_the_askers_own(self):
        rule = ("x", "k", "mix", (("x", 0, None),))
        sorts = {("x", "k", 0, 0): 1}
        told = made_by((), rule, sorts)
        kept = dict(told)
        told.clear()
        told[("y", "k", 0, 0)] = 1
        self.assertEqual(made_by((), rule, sorts), kept)
        self.assertEqual(sorts, {("x", "k", 0, 0): 1})
        sorts[("x", "k", 2, 0)] = 4
        self.assertEqual(made_by((), rule, sorts), {**kept, ("x", "k", 2, 0): 5})


if __name__ == "__main__":
    unittest.main()
