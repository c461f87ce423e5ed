"""The sorts of a shape with their sizes, and examples of them."""

import random
import unittest

from helper import ANY, BOUNDS, SIZED, PlainCase, chain, named_trees, reordered, rich_shape, size_of, some_look
from helper import some_shape
from pathshape.errors import NoSort, TooGreat
from pathshape.marking import names_of
from pathshape.masks import masks
from pathshape.places import all_places
from pathshape.reader import read_shape
from pathshape.sorts import example, sorts_of
from pathshape.sums import made_by
from pathshape.table import table_of

A = ("kind", "a")
B = ("kind", "b")
MARK = ("mark",)


def sorts_in(rows, tree, names, place):
    """The sorts of a marked tree of these names."""
    mark = 0 if place is None else 1 if place == () else 2
    return [(name, tree[0], mark, masks(rows, tree, place)[()][0]) for name in names]


def sorts_plainly(shape, rows, most):
    """The sorts, with their least sizes, of all marked trees of up to so many places."""
    found = {}
    for tree, names in named_trees(shape, most).items():
        for place in [None] + all_places(tree):
            for sort in sorts_in(rows, tree, names, place):
                found[sort] = min(size_of(tree), found.get(sort, size_of(tree)))
    return found


def some_rows(chance, depth, steps, ends=(ANY, A, B, MARK)):
    while True:
        rows, look = table_of(some_look(chance, depth, ends))
        if len(rows) <= steps:
            return reordered(rows, look, chance.sample(range(len(rows)), len(rows)))[0]


class SortsCase(PlainCase):
    def assert_sorts(self, told):
        self.assertIs(type(told), dict)
        for sort, size in told.items():
            self.assert_plain(sort)
            self.assertEqual([type(part) for part in sort], [str, str, int, int])
            self.assertIs(type(size), int)

    def assert_example(self, shape, rows, sort, size):
        told = example(shape, rows, sort)
        self.assertIs(type(told), tuple)
        self.assert_plain(told)
        tree, place = told
        self.assertEqual(size_of(tree), size)
        self.assertIn(place, [None] + all_places(tree))
        self.assertIn(sort, sorts_in(rows, tree, names_of(shape, tree), place), (shape, rows, told))

    def assert_examples(self, shape, rows):
        for sort, size in sorts_of(shape, rows).items():
            if size > 60:
                self.assertEqual(self.assert_refusal(TooGreat, example, shape, rows, sort).size, size)
            else:
                self.assert_example(shape, rows, sort, size)

    def assert_shut(self, shape, rows, told, *marks):
        """All that the rules give is there, and each sort is given by one of them with just its size."""
        given = {}
        for rule in shape[1]:
            for sort, size in made_by(rows, rule, told, *marks).items():
                given[sort] = min(size, given.get(sort, size))
        self.assertEqual(told, given)

    def assert_plainly(self, shape, rows, most):
        told = sorts_of(shape, rows)
        self.assert_sorts(told)
        self.assertEqual({sort: size for sort, size in told.items() if size <= most}, sorts_plainly(shape, rows, most),
                         (shape, rows))
        self.assertEqual(sorts_of(shape, rows, True), told)
        plain = {sort: size for sort, size in told.items() if sort[2] == 0}
        self.assertEqual(sorts_of(shape, rows, False), plain)
        self.assertEqual(sorts_of(shape, rows, marks=False), plain)
        self.assert_shut(shape, rows, told)
        self.assert_shut(shape, rows, plain, False)
        self.assert_examples(shape, rows)


class SortsTest(SortsCase):
    def assert_told(self, text, rows, told):
        shape = read_shape(text)
        self.assertEqual(sorts_of(shape, rows), told)
        self.assert_sorts(sorts_of(shape, rows))
        self.assert_plainly(shape, rows, 4)

    def test_one_place(self):
        self.assert_told("(start x (rule x a row))", (), {("x", "a", 0, 0): 1, ("x", "a", 1, 0): 1})
        self.assert_told("(start x (rule x a row))", (("down", ANY, None),), {("x", "a", 0, 0): 1, ("x", "a", 1, 0): 1})

    def test_a_chain(self):
        self.assert_told("(start x (rule x a row (x 0 1)))", (("down", MARK, None),), {
            ("x", "a", 0, 0): 1, ("x", "a", 1, 0): 1, ("x", "a", 2, 1): 2, ("x", "a", 2, 0): 3})
        self.assert_told("(start x (rule x a row (y 1 1)) (rule y b row (x 0 1)))", (("deep", B, None),), {
            ("x", "a", 0, 1): 2, ("x", "a", 1, 1): 2, ("x", "a", 2, 1): 2, ("y", "b", 0, 0): 1, ("y", "b", 1, 0): 1,
            ("y", "b", 0, 1): 3, ("y", "b", 1, 1): 3, ("y", "b", 2, 1): 3})

    def test_brothers(self):
        rows = (("later", A, None), ("down", ANY, 0))
        self.assert_told("(start x (rule x b row (y 2 2)) (rule y a row))", rows, {
            ("x", "b", 0, 3): 3, ("x", "b", 1, 3): 3, ("x", "b", 2, 3): 3, ("y", "a", 0, 0): 1, ("y", "a", 1, 0): 1})

    def test_names_other_than_the_start(self):
        self.assert_told("(start x (rule y b row) (rule x a row))", (), {
            ("x", "a", 0, 0): 1, ("x", "a", 1, 0): 1, ("y", "b", 0, 0): 1, ("y", "b", 1, 0): 1})

    def test_shapes_without_trees(self):
        for rows in [(), (("down", ANY, None),)]:
            self.assert_told("(start x (rule x a row (x 1 1)))", rows, {})
            self.assert_told("(start x (rule x a row (y 1 1)) (rule y b mix (x 2 many)))", rows, {})
            self.assert_told("(start x (rule x a row (x 1 1)) (rule y b row))", rows, {
                ("y", "b", 0, 0): 1, ("y", "b", 1, 0): 1})

    def test_several_rules_with_one_name(self):
        self.assert_told("(start x (rule x a row (x 2 2)) (rule x a row (x 1 1)) (rule x b row) (rule x b mix (x 1 1)))",
                         (("down", A, None),), {
                             ("x", "b", 0, 0): 1, ("x", "b", 1, 0): 1, ("x", "a", 0, 0): 2, ("x", "a", 1, 0): 2,
                             ("x", "a", 2, 0): 2, ("x", "b", 2, 0): 2, ("x", "a", 0, 1): 3, ("x", "a", 1, 1): 3,
                             ("x", "a", 2, 1): 3, ("x", "b", 0, 1): 3, ("x", "b", 1, 1): 3, ("x", "b", 2, 1): 3})

    def test_several_rules_with_one_kind(self):
        self.assert_told("(start x (rule x a row (y 1 1)) (rule y a row) (rule z a mix (y 0 1)))", (("deep", A, None),), {
            ("x", "a", 0, 1): 2, ("x", "a", 1, 1): 2, ("x", "a", 2, 1): 2, ("y", "a", 0, 0): 1, ("y", "a", 1, 0): 1,
            ("z", "a", 0, 0): 1, ("z", "a", 1, 0): 1, ("z", "a", 0, 1): 2, ("z", "a", 1, 1): 2, ("z", "a", 2, 1): 2})

    def test_each_low_and_high(self):
        for order in ["row", "mix"]:
            for low, high in BOUNDS:
                shape = ("x", (("x", "a", order, (("y", low, high), ("x", 0, 1))), ("y", "b", order, ())))
                self.assert_plainly(shape, (("later", B, None), ("deep", A, 0)), 4)


class PlainWordsTest(SortsCase):
    def test_some_shapes_and_tables(self):
        chance = random.Random(61)
        for number in range(200):
            shape = some_shape(chance) if number % 2 else rich_shape(chance)
            self.assert_plainly(shape, some_rows(chance, 4, 4), 4)

    def test_tables_of_six_rows(self):
        chance = random.Random(62)
        for number in range(60):
            self.assert_plainly(rich_shape(chance), some_rows(chance, 5, 6), 4)

    def test_somewhat_greater_trees(self):
        chance = random.Random(63)
        for number in range(12):
            self.assert_plainly(rich_shape(chance), some_rows(chance, 4, 3), 5)

    def test_another_order_of_rows_gives_the_same_sizes(self):
        chance = random.Random(64)
        for number in range(40):
            shape, rows = rich_shape(chance), some_rows(chance, 4, 5)
            numbers = chance.sample(range(len(rows)), len(rows))
            others = reordered(rows, ANY, numbers)[0]
            moved = {}
            for sort, size in sorts_of(shape, rows).items():
                below = sum(1 << numbers[j] for j in range(len(rows)) if sort[3] >> j & 1)
                moved[sort[:3] + (below,)] = size
            self.assertEqual(sorts_of(shape, others), moved)


class GreatTest(SortsCase):
    def test_sizes_as_great_as_they_come(self):
        for count in [5, 8, 100]:
            names = ["r" + chr(97 + k // 26) + chr(97 + k % 26) for k in range(count)]
            rules = tuple((name, "a", "row", ((names[k + 1], 2, 2),) if k + 1 < count else ())
                          for k, name in enumerate(names))
            told = sorts_of((names[0], rules), (("deep", ANY, None),))
            self.assert_sorts(told)
            for k, name in enumerate(names):
                self.assertEqual(told[(name, "a", 0, 0 if k + 1 == count else 1)], 2 ** (count - k) - 1)
                self.assertEqual(told[(name, "a", 1, 0 if k + 1 == count else 1)], 2 ** (count - k) - 1)
            self.assertEqual(len(told), 3 * count - 1)

    def test_five_rules_of_three_items_and_six_rows(self):
        chance = random.Random(65)
        for number in range(20):
            names = "uvwxy"
            rules = tuple((name, "abcde"[k], chance.choice(["row", "mix"]), tuple(
                (item, *chance.choice(BOUNDS[:4])) for item in chance.sample(names, 3))) for k, name in enumerate(names))
            ends = tuple(("kind", kind) for kind in "abcde") + (MARK,)
            rows = some_rows(chance, 6, 6, ends)
            told = sorts_of(("u", rules), rows)
            self.assert_sorts(told)
            self.assert_shut(("u", rules), rows, told)

    def test_many_sorts(self):
        looks = [("way", (("deep", ("kind", kind)),)) for kind in "abcde"] + [("way", (("down", MARK),))]
        whole = looks[0]
        for look in looks[1:]:
            whole = ("both", whole, look)
        rows = table_of(whole)[0]
        names = "uvwxy"
        for order, bounds in [("mix", (0, 2)), ("mix", (0, None)), ("row", (0, 1)), ("row", (0, None))]:
            shape = ("u", tuple((name, "abcde"[k], order, tuple((names[(k + d) % 5], *bounds) for d in range(3)))
                                for k, name in enumerate(names)))
            told = sorts_of(shape, rows)
            self.assertGreater(len(told), 400)
            self.assert_shut(shape, rows, told)
            for sort in sorted(told)[::40]:
                self.assert_example(shape, rows, sort, told[sort])


class ExampleTest(SortsCase):
    def test_sixty_places_and_one_more(self):
        rows = (("later", ("kind", "l"), None), ("down", ("kind", "l"), 0))
        for size, shape in SIZED.items():
            told = sorts_of(shape, rows)
            for sort in [("a", "k", mark, 3) for mark in range(3)]:
                self.assertEqual(told[sort], size)
                if size == 60:
                    self.assert_example(shape, rows, sort, size)
                else:
                    refused = self.assert_refusal(TooGreat, example, shape, rows, sort)
                    self.assertEqual(refused.size, 61)
                    self.assertIs(type(refused.size), int)
            self.assert_examples(shape, rows)
            self.assert_examples(shape, rows + (("deep", MARK, None),))

    def test_chains_of_sixty_and_one_more(self):
        for count in [1, 2, 59, 60, 61, 62]:
            names = ["r" + chr(97 + k // 26) + chr(97 + k % 26) for k in range(count)]
            rules = tuple((name, "a", "mix", ((names[k + 1], 1, 1),) if k + 1 < count else ())
                          for k, name in enumerate(names))
            shape = (names[0], rules)
            if count > 60:
                self.assertEqual(self.assert_refusal(TooGreat, example, shape, (), (names[0], "a", 0, 0)).size, count)
            else:
                self.assertEqual(example(shape, (), (names[0], "a", 0, 0)), (chain(count), None))
            self.assert_examples(shape, (("deep", MARK, None), ("down", MARK, None)))

    def test_places(self):
        shape = read_shape("(start x (rule x a row (y 1 1) (z 1 1)) (rule y b row) (rule z b row (y 1 1)))")
        rows = (("down", MARK, None), ("later", ANY, None))
        tree = ("a", (("b", ()), ("b", (("b", ()),))))
        self.assertEqual(example(shape, rows, ("x", "a", 0, 2)), (tree, None))
        self.assertEqual(example(shape, rows, ("x", "a", 1, 2)), (tree, ()))
        self.assertIn(example(shape, rows, ("x", "a", 2, 3)), [(tree, (0,)), (tree, (1,))])
        self.assertEqual(example(shape, rows, ("x", "a", 2, 2)), (tree, (1, 0)))

    def test_sorts_that_the_shape_lacks(self):
        shape = read_shape("(start x (rule x a row (y 0 1)) (rule y b row) (rule z c row (z 1 1)))")
        rows = (("down", B, None),)
        for sort in [("x", "b", 0, 0), ("y", "a", 0, 0), ("z", "c", 0, 0), ("z", "c", 1, 1), ("y", "b", 0, 1),
                     ("y", "b", 2, 0), ("x", "a", 2, 0), ("w", "a", 0, 0), ("a", "a", 0, 0), ("x", "a", 3, 0),
                     ("x", "a", 0, 2), ("x", "a", 0, -1), ("x", "zz", 1, 0)]:
            self.assert_refusal(NoSort, example, shape, rows, sort)
        for sort in [("x", "a", 0, 0), ("x", "a", 0, 1), ("x", "a", 1, 1), ("x", "a", 2, 1), ("y", "b", 1, 0)]:
            self.assert_example(shape, rows, sort, sorts_of(shape, rows)[sort])

    def test_all_sorts_of_small_numbers(self):
        chance = random.Random(66)
        for number in range(15):
            shape, rows = some_shape(chance), some_rows(chance, 3, 2)
            told = sorts_of(shape, rows)
            for sort in [(name, kind, mark, below) for name in "uvwx" for kind in "ab" for mark in range(3)
                         for below in range(1 << len(rows))]:
                if sort not in told:
                    self.assert_refusal(NoSort, example, shape, rows, sort)


class OwnTest(SortsCase):
    def test_what_is_told_is_the_askers_own(self):
        shape = read_shape("(start x (rule x a mix (x 0 2)))")
        rows = (("down", A, None),)
        told = sorts_of(shape, rows)
        kept = dict(told)
        told[("x", "a", 0, 0)] = 9
        told.pop(("x", "a", 1, 1))
        self.assertEqual(sorts_of(shape, rows), kept)
        self.assert_example(shape, rows, ("x", "a", 1, 1), 2)


if __name__ == "__main__":
    unittest.main()
