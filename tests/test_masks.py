"""Masks: what a look with from says, the mask of a place, and the masks of a tree."""

import itertools
import random
import unittest

from helper import ANY, PlainCase, all_trees, broad, chain, holds_plainly, mixed_tree, put_back, reordered, some_look
from pathshape.masks import mask_of, masks, says
from pathshape.places import all_places, gone_to
from pathshape.reader import read_tree
from pathshape.table import table_of
from pathshape.walk import holds

A = ("kind", "a")
B = ("kind", "b")
MARK = ("mark",)

# One row for each go, and none of them with a look of its own.
GOES = (("down", ANY, None), ("deep", ANY, None), ("later", ANY, None))


def hit_plainly(rows, j, tree, place, marked):
    """Whether row j's step hits the place: the words of the document, one by one."""
    go, look, rest = rows[j]
    if not holds_plainly(tree, put_back(rows, look), place, marked):
        return False
    return rest is None or holds_plainly(tree, put_back(rows, ("from", rest)), place, marked)


def mask_plainly(rows, tree, place, marked):
    mask = 0
    for j, row in enumerate(rows):
        places = [place] + (gone_to(tree, "deep", place) if row[0] == "deep" else [])
        if any(hit_plainly(rows, j, tree, one, marked) for one in places):
            mask |= 1 << j
    return mask


def together(numbers):
    whole = 0
    for number in numbers:
        whole |= number
    return whole


def masks_plainly(rows, tree, marked):
    own = {place: mask_plainly(rows, tree, place, marked) for place in all_places(tree)}
    return {place: (together(own[one] for one in gone_to(tree, "down", place)),
                    together(own[one] for one in gone_to(tree, "later", place)), own[place]) for place in own}


def some_table(chance, depth, steps):
    """The table of some look with at most so many steps in all, its rows in any order."""
    while True:
        rows, look = table_of(some_look(chance, depth, (ANY, A, B, MARK)))
        if len(rows) <= steps:
            return reordered(rows, look, chance.sample(range(len(rows)), len(rows)))


class SaysTest(PlainCase):
    def assert_says(self, truth, look, kind="a", marked=False, below=0, beside=0, rows=GOES):
        told = says(rows, look, kind, marked, below, beside)
        self.assertIs(told, truth, (look, kind, marked, below, beside))

    def test_any(self):
        for marked, below, beside in itertools.product([False, True], [0, 1, 7], [0, 1, 7]):
            self.assert_says(True, ANY, "a", marked, below, beside)
            self.assert_says(True, ANY, "b", marked, below, beside, ())

    def test_kind(self):
        for marked, below, beside in itertools.product([False, True], [0, 7], [0, 7]):
            self.assert_says(True, A, "a", marked, below, beside)
            self.assert_says(False, A, "b", marked, below, beside)
            self.assert_says(False, A, "aa", marked, below, beside)

    def test_mark(self):
        for below, beside in itertools.product([0, 7], [0, 7]):
            self.assert_says(True, MARK, "a", True, below, beside)
            self.assert_says(False, MARK, "a", False, below, beside)
            self.assert_says(False, ("not", MARK), "a", True, below, beside)
            self.assert_says(True, ("not", MARK), "a", False, below, beside)

    def test_from_by_each_go_with_each_bit(self):
        for below, beside in itertools.product(range(8), range(8)):
            for marked in [False, True]:
                self.assert_says(below & 1 == 1, ("from", 0), "a", marked, below, beside)
                self.assert_says(below & 2 == 2, ("from", 1), "a", marked, below, beside)
                self.assert_says(beside & 4 == 4, ("from", 2), "a", marked, below, beside)

    def test_from_of_rows_in_any_order(self):
        for order in itertools.permutations(GOES):
            for below, beside in itertools.product(range(8), range(8)):
                for j, row in enumerate(order):
                    bits = beside if row[0] == "later" else below
                    self.assert_says(bits >> j & 1 == 1, ("from", j), below=below, beside=beside, rows=order)

    def test_from_asks_no_look_and_no_rest(self):
        rows = (("down", ("not", ANY), 1), ("later", B, None))
        self.assert_says(True, ("from", 0), below=1, rows=rows)
        self.assert_says(False, ("from", 0), below=2, beside=3, rows=rows)
        self.assert_says(True, ("from", 1), beside=2, rows=rows)
        self.assert_says(False, ("from", 1), below=3, beside=1, rows=rows)

    def test_not_both_either(self):
        for first, second in itertools.product([False, True], [False, True]):
            looks = [ANY if truth else ("not", ANY) for truth in (first, second)]
            self.assert_says(not first, ("not", looks[0]))
            self.assert_says(first and second, ("both", looks[0], looks[1]))
            self.assert_says(first or second, ("either", looks[0], looks[1]))

    def test_nested(self):
        look = ("both", ("either", ("not", A), ("from", 0)), ("not", ("both", MARK, ("from", 2))))
        for kind, marked, below, beside in itertools.product("ab", [False, True], range(8), range(8)):
            truth = (kind != "a" or below & 1 == 1) and not (marked and beside & 4 == 4)
            self.assert_says(truth, look, kind, marked, below, beside)

    def test_rows_far_on(self):
        rows = GOES * 15
        for j in range(45):
            bit = 1 << j
            low = [bit, 0] if rows[j][0] == "later" else [0, bit]
            self.assert_says(True, ("from", j), below=low[1], beside=low[0], rows=rows)
            self.assert_says(False, ("from", j), below=low[0], beside=low[1], rows=rows)
            self.assert_says(False, ("from", j), below=(1 << 45) - 1 - low[1], beside=(1 << 45) - 1 - low[0],
                             rows=rows)

    def test_twelve_deep_forty_looks_and_beyond(self):
        look = ("from", 0)
        for number in range(11):
            look = ("not", look)
        self.assert_says(False, look, below=1)
        self.assert_says(True, look, below=6)
        look = ("from", 2)
        for number in range(100):
            look = ("both", ("either", B, look), ANY)
        self.assert_says(True, look, beside=4)
        self.assert_says(False, look, beside=3)
        self.assert_says(True, look, "b")


class MaskOfTest(PlainCase):
    def assert_mask(self, rows, mask, kind="a", marked=False, below=0, beside=0):
        told = mask_of(rows, kind, marked, below, beside)
        self.assertEqual(told, mask, (rows, kind, marked, below, beside))
        self.assertIs(type(told), int)

    def test_no_rows(self):
        for kind, marked in itertools.product("ab", [False, True]):
            self.assert_mask((), 0, kind, marked)

    def test_looks_by_each_go(self):
        for go in ["down", "deep", "later"]:
            self.assert_mask(((go, A, None),), 1)
            self.assert_mask(((go, B, None),), 0)
            self.assert_mask(((go, MARK, None),), 1, marked=True)
            self.assert_mask(((go, MARK, None),), 0)
            self.assert_mask(((go, A, None), (go, B, None), (go, ANY, None)), 5, beside=2)
            self.assert_mask(((go, A, None), (go, B, None), (go, ANY, None)), 6, "b")

    def test_deep_keeps_the_bit_of_below(self):
        no = ("not", ANY)
        for below, beside in itertools.product(range(8), range(8)):
            rows = (("deep", no, None), ("down", no, None), ("later", no, None))
            self.assert_mask(rows, below & 1, below=below, beside=beside)
            self.assert_mask((rows[1], rows[0], rows[2]), below & 2, below=below, beside=beside)
            self.assert_mask((("deep", no, None), ("deep", no, 0), ("deep", A, None)), below & 3 | 4,
                             below=below, beside=beside)

    def test_a_rest_is_asked(self):
        for go in ["down", "deep", "later"]:
            self.assert_mask(((go, ANY, 1), ("down", B, None)), 0)
            self.assert_mask(((go, ANY, 1), ("down", B, None)), 1, below=2)
            self.assert_mask(((go, ANY, 1), ("down", B, None)), 0, beside=2)
            self.assert_mask(((go, ANY, 1), ("later", B, None)), 1, beside=2)
            self.assert_mask(((go, ANY, 1), ("later", B, None)), 0, below=2)
            self.assert_mask(((go, ANY, 1), ("deep", B, None)), 3, below=2)
            self.assert_mask(((go, B, 1), ("deep", B, None)), 2, below=2, beside=3)
            self.assert_mask((("later", B, None), (go, ANY, 0)), 2, beside=1)

    def test_a_rest_and_a_from_do_not_ask_the_place_itself(self):
        # Bit 1 of the own mask is set in all of these, but below and beside lack it.
        for go in ["down", "deep", "later"]:
            self.assert_mask((("down", ANY, 1), (go, ANY, None)), 2)
            self.assert_mask((("down", ("from", 1), None), (go, ANY, None)), 2)
            self.assert_mask((("down", ("not", ("from", 1)), None), (go, ANY, None)), 3)

    def test_from_in_rows(self):
        rows = (("later", ("from", 1), None), ("down", B, None), ("deep", ("not", ("from", 0)), 1))
        self.assert_mask(rows, 0)
        self.assert_mask(rows, 1 + 4, below=2)
        self.assert_mask(rows, 1, below=2, beside=1)
        self.assert_mask(rows, 1 + 2, "b", below=2, beside=1)
        self.assert_mask(rows, 4, below=4, beside=7)

    def test_every_below_and_beside_against_says(self):
        chance = random.Random(41)
        for number in range(60):
            rows, look = some_table(chance, 4, 4)
            for below, beside in itertools.product(range(1 << len(rows)), range(1 << len(rows))):
                kind, marked = chance.choice("ab"), chance.choice([False, True])
                mask = 0
                for j, (go, inner, rest) in enumerate(rows):
                    hit = says(rows, inner, kind, marked, below, beside) and (
                        rest is None or says(rows, ("from", rest), kind, marked, below, beside))
                    if hit or go == "deep" and below >> j & 1 == 1:
                        mask |= 1 << j
                self.assert_mask(rows, mask, kind, marked, below, beside)


class MasksTest(PlainCase):
    def assert_masks(self, rows, tree, marked, told):
        self.assertEqual(told, masks_plainly(rows, tree, marked), (rows, tree, marked))
        self.assertIs(type(told), dict)
        for place, three in told.items():
            self.assert_plain(place)
            self.assertIs(type(three), tuple)
            self.assertEqual([type(number) for number in three], [int] * 3)

    def assert_all_masks(self, rows, tree):
        self.assert_masks(rows, tree, None, masks(rows, tree))
        self.assert_masks(rows, tree, None, masks(rows, tree, None))
        for place in all_places(tree):
            self.assert_masks(rows, tree, place, masks(rows, tree, place))

    def test_by_hand(self):
        tree = read_tree("(a (b) (a (b)) (b))")
        rows = (("down", B, None), ("later", A, None), ("deep", MARK, None), ("down", ANY, 1))
        self.assertEqual(masks(rows, tree, (1, 0)), {
            (): (1 + 2 + 4 + 8, 0, 2 + 4), (0,): (0, 1 + 2 + 4, 1 + 8), (1,): (1 + 4, 1, 2 + 4),
            (1, 0): (0, 0, 1 + 4), (2,): (0, 0, 1)})
        self.assertEqual(masks(rows, tree), {
            (): (1 + 2 + 8, 0, 2), (0,): (0, 1 + 2, 1 + 8), (1,): (1, 1, 2), (1, 0): (0, 0, 1), (2,): (0, 0, 1)})

    def test_no_rows(self):
        for tree in [("a", ()), chain(5), broad(5)]:
            self.assertEqual(masks((), tree), {place: (0, 0, 0) for place in all_places(tree)})

    def test_one_place(self):
        chance = random.Random(42)
        for number in range(200):
            rows, look = some_table(chance, 4, 8)
            for kind in "ab":
                self.assert_all_masks(rows, (kind, ()))

    def test_chains_and_brothers(self):
        chance = random.Random(43)
        for number in range(40):
            rows, look = some_table(chance, 4, 6)
            kinds = [chance.choice("ab") for place in range(7)]
            tree = ("a", ())
            for kind in kinds:
                tree = (kind, (tree,))
            self.assert_all_masks(rows, tree)
            self.assert_all_masks(rows, ("b", tuple((kind, ()) for kind in kinds)))

    def test_all_small_trees(self):
        chance = random.Random(44)
        trees = [tree for size in range(1, 5) for tree in all_trees(size, ["a", "b"])]
        for tree in trees:
            for number in range(2):
                self.assert_all_masks(some_table(chance, 4, 6)[0], tree)

    def test_mixed_trees(self):
        chance = random.Random(45)
        for number in range(40):
            rows, look = some_table(chance, 4, 6)
            self.assert_all_masks(rows, mixed_tree(9, ["a", "b"], number))

    def test_rows_in_another_order(self):
        chance = random.Random(46)
        for number in range(60):
            rows, look = some_table(chance, 4, 6)
            numbers = chance.sample(range(len(rows)), len(rows))
            others, turned = reordered(rows, look, numbers)
            tree = mixed_tree(12, ["a", "b"], number)
            first, second = masks(rows, tree, (0,)), masks(others, tree, (0,))
            for place in first:
                for one, other in zip(first[place], second[place]):
                    moved = together(1 << numbers[j] for j in range(len(rows)) if one >> j & 1)
                    self.assertEqual(moved, other)

    def test_what_a_look_says_is_what_holds_tells(self):
        chance = random.Random(47)
        for number in range(300):
            plain = some_look(chance, 5)
            rows, look = table_of(plain)
            rows, look = reordered(rows, look, chance.sample(range(len(rows)), len(rows)))
            tree = mixed_tree(chance.choice([1, 5, 14]), ["a", "b"], number)
            told = masks(rows, tree)
            kinds = dict(zip(all_places(tree), [part[0] for part in self.parts_in_order(tree)]))
            self.assertEqual([place for place in all_places(tree) if says(
                rows, look, kinds[place], False, told[place][0], told[place][1])], holds(tree, plain))

    def parts_in_order(self, tree):
        return [tree] + [inner for part in tree[1] for inner in self.parts_in_order(part)]

    def test_what_a_look_says_with_a_mark(self):
        chance = random.Random(48)
        for number in range(100):
            plain = some_look(chance, 5, (ANY, A, MARK))
            rows, look = table_of(plain)
            tree = mixed_tree(6, ["a", "b"], number)
            for marked in [None] + all_places(tree):
                told = masks(rows, tree, marked)
                for place, part in zip(all_places(tree), self.parts_in_order(tree)):
                    self.assertIs(says(rows, look, part[0], place == marked, told[place][0], told[place][1]),
                                  holds_plainly(tree, plain, place, marked))

    def test_great_trees(self):
        rows, look = table_of(("way", (("deep", ("not", ("way", (("later", A), ("down", ANY))))), ("deep", MARK))))
        for tree in [chain(100), broad(100), mixed_tree(100, ["a", "b"], 1), chain(300), broad(300)]:
            last = all_places(tree)[-1]
            told = masks(rows, tree, last)
            self.assertEqual(sorted(told), all_places(tree))
            for place, (below, beside, mask) in told.items():
                self.assertEqual(mask, mask_of(rows, self.kind_at(tree, place), place == last, below, beside))
        self.assertEqual(len(masks(GOES * 13, broad(100))), 100)

    def kind_at(self, tree, place):
        for k in place:
            tree = tree[1][k]
        return tree[0]

    def test_what_is_told_is_the_askers_own(self):
        tree = read_tree("(a (b) (a))")
        told = masks(GOES, tree)
        kept = dict(told)
        told.clear()
        told[()] = (9, 9, 9)
        self.assertEqual(masks(GOES, tree), kept)


if __name__ == "__main__":
    unittest.main()
