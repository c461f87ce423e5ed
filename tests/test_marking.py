"""Trees of a shape: their names, and markings by them."""

import itertools
import random
import unittest

from helper import PlainCase, all_trees, broad, chain, let_plainly, mixed_tree, some_shape
from pathshape.errors import NoShape
from pathshape.marking import has, marking, names_of
from pathshape.places import all_places, tree_at
from pathshape.reader import read_shape, read_tree
from pathshape.sound import sound


def leaf(kind):
    return (kind, ())


def names_plainly(shape, tree):
    """All names, by trying all rows of the names of the parts."""
    below = [names_plainly(shape, part) for part in tree[1]]
    return {rule[0] for rule in shape[1] if rule[1] == tree[0] and any(
        let_plainly(rule, list(row)) for row in itertools.product(*below))}


class MarkingCase(PlainCase):
    def assert_marked(self, shape, tree, name, told):
        rules = shape[1]
        self.assertIs(type(told), dict)
        self.assertEqual(sorted(told), sorted(all_places(tree)))
        self.assertEqual(rules[told[()]][0], name)
        for place, number in told.items():
            self.assertIs(type(number), int)
            self.assertTrue(0 <= number < len(rules))
            self.assert_plain(place)
            kind, parts = tree_at(tree, place)
            self.assertEqual(rules[number][1], kind)
            row = [rules[told[place + (k,)]][0] for k in range(len(parts))]
            self.assertTrue(let_plainly(rules[number], row), (shape, tree, told, place))

    def assert_names(self, shape, tree, names):
        sound(shape)
        told = names_of(shape, tree)
        self.assertEqual(told, names, (shape, tree))
        self.assertIs(type(told), list)
        self.assertIs(has(shape, tree), shape[0] in names)
        for name in sorted({rule[0] for rule in shape[1]} | {"zz"}):
            if name in names:
                self.assert_marked(shape, tree, name, marking(shape, tree, name))
            else:
                self.assert_refusal(NoShape, marking, shape, tree, name)
        if shape[0] in names:
            self.assert_marked(shape, tree, shape[0], marking(shape, tree))
            self.assert_marked(shape, tree, shape[0], marking(shape, tree, None))
        else:
            self.assert_refusal(NoShape, marking, shape, tree)
            self.assert_refusal(NoShape, marking, shape, tree, None)

    def assert_texts(self, shape, names, *trees):
        for tree in trees:
            self.assert_names(read_shape(shape), read_tree(tree), names)


class NamesTest(MarkingCase):
    def test_a_tree_of_one_place(self):
        self.assert_texts("(start x (rule x a row))", ["x"], "(a)")
        self.assert_texts("(start x (rule x a row))", [], "(b)", "(x)", "(a (a))", "(a (b))")
        self.assert_texts("(start x (rule x a mix (x 0 many)))", ["x"], "(a)", "(a (a))", "(a (a (a) (a)) (a))")

    def test_a_row(self):
        shape = "(start x (rule x a row (y 1 2) (z 0 1)) (rule y b row) (rule z c row (z 0 many)))"
        self.assert_texts(shape, ["x"], "(a (b))", "(a (b) (b))", "(a (b) (c))", "(a (b) (b) (c (c) (c)))")
        self.assert_texts(shape, ["y"], "(b)")
        self.assert_texts(shape, ["z"], "(c)", "(c (c))")
        self.assert_texts(shape, [], "(a)", "(a (b) (b) (b))", "(a (c) (b))", "(a (c))", "(a (b) (c) (c))",
                          "(a (b) (d))", "(a (b (b)))", "(a (b) (c (b)))", "(d)", "(x)", "(b (b))",
                          "(a (a (b)))")

    def test_a_mix(self):
        shape = "(start x (rule x a mix (y 1 2) (z 0 1)) (rule y b mix) (rule z c mix (z 0 many)))"
        self.assert_texts(shape, ["x"], "(a (b))", "(a (b) (b))", "(a (b) (c))", "(a (c) (b))", "(a (b) (c (c)) (b))")
        self.assert_texts(shape, [], "(a)", "(a (c))", "(a (b) (b) (b))", "(a (c) (b) (c))", "(a (b) (d))",
                          "(a (b) (c) (x))", "(a (c (b)) (b))")

    def test_a_name_with_several_rules(self):
        shape = "(start x (rule x a row (x 0 many)) (rule x b row (x 1 1)) (rule x b row (x 2 2)))"
        self.assert_texts(shape, ["x"], "(a)", "(b (a))", "(b (a) (a))", "(a (b (a)) (a))", "(b (b (a)) (a (b (a))))")
        self.assert_texts(shape, [], "(b)", "(b (a) (a) (a))", "(a (b))", "(c)")

    def test_a_kind_with_several_names(self):
        shape = "(start z (rule z a row) (rule y a row (z 0 1)) (rule x a row (z 0 1) (y 0 many)) (rule w b row))"
        self.assert_texts(shape, ["x", "y", "z"], "(a)")
        self.assert_texts(shape, ["x", "y"], "(a (a))")
        self.assert_texts(shape, ["x"], "(a (a) (a))", "(a (a (a)))", "(a (a) (a (a)))", "(a (a) (a) (a) (a))")
        self.assert_texts(shape, ["w"], "(b)")
        self.assert_texts(shape, [], "(a (b))", "(b (a))", "(a (a (a (a (a)))))", "(c)")

    def test_names_are_sorted_and_told_once(self):
        shape = ("b", (("c", "k", "row", ()), ("a", "k", "row", ()), ("c", "k", "mix", ()), ("b", "k", "row", ()),
                       ("a", "k", "row", (("a", 0, 1),))))
        self.assert_names(shape, leaf("k"), ["a", "b", "c"])
        self.assert_names(shape, ("k", (leaf("k"),)), ["a"])

    def test_the_first_rules_that_fit_do_not_always_do(self):
        shape = "(start x (rule x a row (y 1 1) (z 1 1)) (rule y b row) (rule z b row))"
        self.assert_texts(shape, ["x"], "(a (b) (b))")
        self.assert_texts(shape, ["y", "z"], "(b)")
        self.assert_texts(shape, [], "(a (b))", "(a (b) (b) (b))")
        order = "(start x (rule x a row (z 2 2) (y 1 many)) (rule y b row) (rule z b row))"
        self.assert_texts(order, ["x"], "(a (b) (b) (b))", "(a (b) (b) (b) (b))")
        self.assert_texts(order, [], "(a (b) (b))")
        mix = "(start x (rule x a mix (y 1 1) (z 1 1)) (rule y b mix (y 0 1)) (rule z b mix) (rule y c mix))"
        self.assert_texts(mix, ["x"], "(a (b) (b))", "(a (b) (c))", "(a (c) (b))", "(a (b) (b (c)))",
                          "(a (b (c)) (b))")
        self.assert_texts(mix, [], "(a (c) (c))", "(a (b (c)) (b (c)))")

    def test_choices_deep_within(self):
        shape = read_shape("(start x (rule x a row (y 1 1)) (rule x a row) (rule y a row (x 1 1)) (rule z b row))")
        for size in range(1, 101):
            self.assert_names(shape, chain(size), ["x"] if size % 2 == 1 else ["y"])

    def test_a_shape_without_any_tree(self):
        shape = "(start x (rule x a row (x 1 1)) (rule y b row))"
        self.assert_texts(shape, [], "(a)", "(a (a))", "(a (b))", "(a (a (a (a))))")
        self.assert_texts(shape, ["y"], "(b)")
        for size in range(1, 5):
            for tree in all_trees(size, ["a", "c"]):
                self.assert_names(read_shape(shape), tree, [])

    def test_a_tree_of_names_but_not_of_the_start(self):
        shape = read_shape("(start x (rule x a row (y 1 1)) (rule y a row))")
        self.assert_names(shape, leaf("a"), ["y"])
        self.assertIs(has(shape, leaf("a")), False)
        self.assertEqual(marking(shape, leaf("a"), "y"), {(): 1})
        self.assertEqual(marking(shape, ("a", (leaf("a"),))), {(): 0, (0,): 1})

    def test_an_item_with_0_and_0(self):
        for order in ["row", "mix"]:
            shape = "(start x (rule x a " + order + " (y 0 0) (z 0 1)) (rule y b row) (rule z c row))"
            self.assert_texts(shape, ["x"], "(a)", "(a (c))")
            self.assert_texts(shape, [], "(a (b))", "(a (b) (c))")

    def test_numbers_of_rules(self):
        shape = read_shape("(start x (rule y b row) (rule x b row) (rule x a mix (y 1 1) (x 0 many)))")
        self.assertEqual(marking(shape, leaf("b")), {(): 1})
        self.assertEqual(marking(shape, leaf("b"), "y"), {(): 0})
        self.assertEqual(marking(shape, ("a", (leaf("b"),))), {(): 2, (0,): 0})

    def test_a_name_of_which_there_is_no_rule(self):
        shape = read_shape("(start x (rule x a row))")
        for name in ["y", "a", "row", "start", "xx", ""]:
            self.assert_refusal(NoShape, marking, shape, leaf("a"), name)
        self.assertEqual(marking(shape, leaf("a"), name="x"), {(): 0})

    def test_all_small_trees_against_the_plain_words(self):
        chance = random.Random(11)
        trees = [tree for size in range(1, 5) for tree in all_trees(size, ["a", "b"])]
        for number in range(60):
            shape = some_shape(chance)
            for tree in trees:
                self.assert_names(shape, tree, sorted(names_plainly(shape, tree)))

    def test_some_trees_with_more_brothers_against_the_plain_words(self):
        chance = random.Random(12)
        for number in range(100):
            shape = some_shape(chance)
            for parts in [3, 5]:
                tree = ("a", tuple(chance.choice(all_trees(chance.choice([1, 2]), ["a", "b"]))
                                   for number in range(parts)))
                self.assert_names(shape, tree, sorted(names_plainly(shape, tree)))


class GreatTreesTest(MarkingCase):
    def test_many_parts_in_a_row(self):
        shape = read_shape("(start x (rule x a row (y 1 many) (z 2 2) (w 1 many)) "
                           "(rule y b row) (rule z b row) (rule w b row) (rule w c row))")
        for parts in [79, 80, 99]:
            self.assert_names(shape, broad(parts + 1), ["x"])
            row = (leaf("b"),) * (parts - 10)
            self.assert_names(shape, ("a", row + (leaf("c"),) * 10), ["x"])
            self.assert_names(shape, ("a", row + (leaf("c"),) + (leaf("b"),) * 9), ["x"])
            self.assert_names(shape, ("a", (leaf("c"),) + row), [])
            self.assert_names(shape, ("a", row + (leaf("d"),)), [])
        self.assert_names(shape, broad(4), [])
        self.assert_names(shape, broad(5), ["x"])

    def test_many_parts_in_a_mix(self):
        shape = read_shape("(start x (rule x a mix (y 1 many) (z 2 2) (w 1 2)) (rule y b row) (rule z c row)"
                           "(rule w c row) (rule w b mix))")
        for parts in [80, 97]:
            row = (leaf("b"),) * (parts - 3)
            self.assert_names(shape, ("a", row + (leaf("c"),) * 2), ["x"])
            self.assert_names(shape, ("a", (leaf("c"),) * 3 + row), ["x"])
            self.assert_names(shape, ("a", (leaf("c"),) + row + (leaf("c"),) * 3), ["x"])
            self.assert_names(shape, ("a", (leaf("c"),) + row + (leaf("c"),) * 4), [])
            self.assert_names(shape, ("a", (leaf("c"),) + row), [])

    def test_chains(self):
        shape = read_shape("(start x (rule x a row (y 1 1)) (rule y a row (z 1 1)) (rule z a row (x 0 1)))")
        names = {0: ["x"], 1: ["z"], 2: ["y"]}
        for size in range(1, 101):
            self.assert_names(shape, chain(size), names[size % 3])

    def test_eight_rules_of_three_items(self):
        names = ["r", "s", "t", "u", "v", "w", "x", "y"]
        for order in ["row", "mix"]:
            rules = tuple((name, "a", order, tuple((names[(k + d) % 8], 0, None) for d in [0, 1, 3]))
                          for k, name in enumerate(names))
            shape = ("r", rules)
            for tree in [chain(100), broad(100, "a", "a")] + [mixed_tree(100, ["a"], seed) for seed in range(4)]:
                self.assert_names(shape, tree, names)
            for seed in range(4):
                tree = mixed_tree(100, ["a"] * 99 + ["b"], seed)
                self.assert_names(shape, tree, [] if "'b'" in repr(tree) else names)

    def test_trees_somewhat_beyond_the_bounds(self):
        shape = read_shape("(start x (rule x a mix (x 0 many) (y 0 2)) (rule y a row (x 1 1)) (rule z b row))")
        self.assertEqual(names_of(shape, chain(400)), ["x", "y"])
        self.assertEqual(len(marking(shape, chain(400))), 400)
        self.assertEqual(names_of(shape, broad(400, "a", "a")), ["x"])
        self.assertIs(has(shape, broad(400)), False)
        self.assertEqual(sorted(marking(shape, broad(400, "a", "a"))), all_places(broad(400)))


class OwnTest(MarkingCase):
    def test_what_is_told_is_the_askers_own(self):
        shape = read_shape("(start x (rule x a row (x 0 many)) (rule y a row))")
        tree = read_tree("(a (a) (a (a)))")
        names = names_of(shape, tree)
        names.append("zz")
        names.pop(0)
        self.assertEqual(names_of(shape, tree), ["x"])
        told = marking(shape, tree)
        kept = dict(told)
        told.clear()
        told[()] = 7
        self.assertEqual(marking(shape, tree), kept)
        self.assertIs(has(shape, tree), True)


if __name__ == "__main__":
    unittest.main()
