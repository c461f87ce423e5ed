"""Ways told shorter, and the looks in a way."""

import random
import unittest

from helper import ANY, SIZED, PlainCase, rich_shape, some_shape, some_way, trees_of
from pathshape.errors import TooGreat
from pathshape.questions import same
from pathshape.reader import read_shape, read_way
from pathshape.shorter import let_go, looks_in, shorter
from pathshape.sound import steps_in
from pathshape.walk import finds
from pathshape.writer import show_look, show_way

A = ("kind", "a")


def looks_plainly(way):
    """The looks in the order of the document: a look, then all that is in it, from the left."""
    return [inner for go, look in way for inner in look_and_within(look)]


def look_and_within(look):
    if look[0] == "way":
        return [look] + looks_plainly(look[1])
    if look[0] in ("not", "both", "either"):
        return [look] + [inner for part in look[1:] for inner in look_and_within(part)]
    return [look]


def let_go_plainly(way, number):
    """The steps one by one: the look of that number, counted through the looks ahead of it, is any."""
    steps = []
    for go, look in way:
        steps.append((go, without(look, number)))
        number -= len(look_and_within(look))
    return tuple(steps)


def without(look, number):
    if number == 0:
        return ANY
    if number < 0 or number >= len(look_and_within(look)):
        return look
    if look[0] == "way":
        return ("way", let_go_plainly(look[1], number - 1))
    parts = []
    number -= 1
    for part in look[1:]:
        parts.append(without(part, number))
        number -= len(look_and_within(part))
    return (look[0],) + tuple(parts)


def is_same(shape, way, other):
    try:
        return same(shape, way, other) == ("same",)
    except TooGreat:
        return False


def round_plainly(shape, way):
    """One round of the document, look by look."""
    number = 0
    while number < len(looks_plainly(way)):
        less = let_go_plainly(way, number)
        if looks_plainly(way)[number] != ANY and is_same(shape, less, way):
            way = less
        number += 1
    return way


def rounds_plainly(shape, way):
    """The way ahead of each round; the last round lets go of none."""
    ways = [way, round_plainly(shape, way)]
    while ways[-1] != ways[-2]:
        ways.append(round_plainly(shape, ways[-1]))
    return ways[:-1]


def some_small_way(chance, depth):
    while True:
        way = some_way(chance, depth)
        if steps_in(("way", way)) <= 3:
            return way


class LooksTest(PlainCase):
    def assert_looks(self, text, *looks):
        told = looks_in(read_way(text))
        self.assertEqual([show_look(look) for look in told], list(looks))
        self.assertIs(type(told), list)
        for look in told:
            self.assert_plain(look)

    def test_steps(self):
        self.assert_looks("(way (down any))", "any")
        self.assert_looks("(way (down (kind a)) (deep any) (later (kind b)))", "(kind a)", "any", "(kind b)")

    def test_a_look_comes_ahead_of_what_is_in_it(self):
        self.assert_looks("(way (down (not (not (kind a)))))", "(not (not (kind a)))", "(not (kind a))", "(kind a)")

    def test_parts_from_the_left(self):
        self.assert_looks("(way (down (both (not (kind a)) (either any (kind b)))) (later any))",
                          "(both (not (kind a)) (either any (kind b)))", "(not (kind a))", "(kind a)",
                          "(either any (kind b))", "any", "(kind b)", "any")

    def test_ways_in_looks(self):
        self.assert_looks("(way (down (both (way (deep (not any)) (later (kind a))) (kind b))) (down any))",
                          "(both (way (deep (not any)) (later (kind a))) (kind b))",
                          "(way (deep (not any)) (later (kind a)))", "(not any)", "any", "(kind a)", "(kind b)", "any")

    def test_some_ways(self):
        chance = random.Random(91)
        for number in range(300):
            way = some_way(chance, number % 6 + 1)
            self.assertEqual(looks_in(way), looks_plainly(way))

    def test_what_is_told_is_the_askers_own(self):
        way = read_way("(way (down (not (kind a))))")
        told = looks_in(way)
        told.clear()
        self.assertEqual(len(looks_in(way)), 2)


class LetGoTest(PlainCase):
    def assert_let_go(self, text, *texts):
        way = read_way(text)
        told = [let_go(way, number) for number in range(len(looks_in(way)))]
        self.assertEqual([show_way(less) for less in told], list(texts))
        for less in told:
            self.assert_plain(less)

    def test_steps(self):
        self.assert_let_go("(way (down any))", "(way (down any))")
        self.assert_let_go("(way (down (kind a)) (deep any) (later (kind b)))",
                           "(way (down any) (deep any) (later (kind b)))",
                           "(way (down (kind a)) (deep any) (later (kind b)))",
                           "(way (down (kind a)) (deep any) (later any))")

    def test_looks_in_looks(self):
        self.assert_let_go("(way (down (both (not (kind a)) (either any (kind b)))))",
                           "(way (down any))",
                           "(way (down (both any (either any (kind b)))))",
                           "(way (down (both (not any) (either any (kind b)))))",
                           "(way (down (both (not (kind a)) any)))",
                           "(way (down (both (not (kind a)) (either any (kind b)))))",
                           "(way (down (both (not (kind a)) (either any any))))")

    def test_ways_in_looks(self):
        self.assert_let_go("(way (down (way (deep (kind a)) (later (not (kind b))))) (deep (kind c)))",
                           "(way (down any) (deep (kind c)))",
                           "(way (down (way (deep any) (later (not (kind b))))) (deep (kind c)))",
                           "(way (down (way (deep (kind a)) (later any))) (deep (kind c)))",
                           "(way (down (way (deep (kind a)) (later (not any)))) (deep (kind c)))",
                           "(way (down (way (deep (kind a)) (later (not (kind b))))) (deep any))")

    def test_a_look_that_stands_twice_is_let_go_of_once(self):
        self.assert_let_go("(way (down (both (kind a) (kind a))) (down (kind a)))",
                           "(way (down any) (down (kind a)))",
                           "(way (down (both any (kind a))) (down (kind a)))",
                           "(way (down (both (kind a) any)) (down (kind a)))",
                           "(way (down (both (kind a) (kind a))) (down any))")

    def test_some_ways(self):
        chance = random.Random(92)
        for number in range(300):
            way = some_way(chance, number % 6 + 1)
            for count in range(len(looks_in(way))):
                self.assertEqual(let_go(way, count), let_go_plainly(way, count), way)

    def test_deep_and_long_ones(self):
        look = A
        for number in range(300):
            look = ("not", look)
        way = (("down", look),) * 3
        self.assertEqual(len(looks_in(way)), 903)
        self.assertEqual(let_go(way, 301), (("down", look), ("down", ANY), ("down", look)))
        self.assertEqual(looks_in(let_go(way, 900))[-1], ANY)


class ShorterTest(PlainCase):
    def assert_shorter(self, shape, way):
        told = shorter(shape, way)
        self.assert_plain(told)
        self.assertEqual(told, rounds_plainly(shape, way)[-1], (shape, way))
        self.assertEqual([go for go, look in told], [go for go, look in way])
        self.assertTrue(is_same(shape, told, way))
        self.assertEqual(shorter(shape, told), told)
        for number, look in enumerate(looks_in(told)):
            self.assertEqual(is_same(shape, let_go(told, number), told), look == ANY)
        return told

    def assert_told(self, shape, text, short):
        told = self.assert_shorter(read_shape(shape), read_way(text))
        self.assertEqual(show_way(told), short)

    def test_by_hand(self):
        shape = ("(start b (rule b book row (h 0 1) (p 1 many)) (rule h head row) (rule p page mix (n 0 2))"
                 "(rule n note row))")
        self.assert_told(shape, "(way (down any))", "(way (down any))")
        self.assert_told(shape, "(way (down (kind page)))", "(way (down (kind page)))")
        self.assert_told(shape, "(way (down (kind page)) (down (kind note)))", "(way (down any) (down any))")
        self.assert_told(shape, "(way (down (kind head)) (later (kind page)))", "(way (down (kind head)) (later any))")
        self.assert_told(shape, "(way (later (kind page)))", "(way (later any))")
        self.assert_told(shape, "(way (deep (both (kind page) (not (way (later (kind head)))))))",
                         "(way (deep (both (kind page) any)))")
        self.assert_told(shape, "(way (down (either (kind head) (kind page))))", "(way (down any))")
        self.assert_told(shape, "(way (down (not (kind note))))", "(way (down any))")
        self.assert_told(shape, "(way (deep (not (kind book))))", "(way (deep any))")

    def test_a_way_that_finds_nothing(self):
        shape = "(start x (rule x a row (x 0 1)))"
        self.assert_told(shape, "(way (down (kind b)))", "(way (down (kind b)))")
        self.assert_told(shape, "(way (down (both (kind b) (kind c))))", "(way (down (both any (kind c))))")
        self.assert_told(shape, "(way (down (kind b)) (later (kind b)))", "(way (down any) (later any))")
        self.assert_told(shape, "(way (down (not any)))", "(way (down (not any)))")
        self.assert_told(shape, "(way (down (not (kind a))))", "(way (down (not any)))")

    def test_looks_that_only_a_later_round_lets_go_of(self):
        chance = random.Random(93)
        later = 0
        for number in range(400):
            shape, way = rich_shape(chance), some_small_way(chance, 4)
            if len(rounds_plainly(shape, way)) > 2:
                later += 1
                self.assert_shorter(shape, way)
        self.assertGreater(later, 2)

    def test_some_shapes_and_ways(self):
        chance = random.Random(94)
        for number in range(150):
            shape = some_shape(chance) if number % 4 == 0 else rich_shape(chance)
            way = some_small_way(chance, number % 5 + 1)
            told = self.assert_shorter(shape, way)
            for tree in trees_of(shape, 5)[:80]:
                self.assertEqual(finds(tree, told), finds(tree, way), (shape, way, tree))

    def test_a_shape_without_trees(self):
        shape = "(start x (rule x a row (x 1 1)) (rule y b row))"
        for text, short in [("(way (down (kind a)))", "(way (down any))"),
                            ("(way (deep (not any)) (later (way (down (kind b)))))", "(way (deep any) (later any))"),
                            ("(way (later (both (kind a) (kind b))) (down any))", "(way (later any) (down any))")]:
            self.assert_told(shape, text, short)

    def test_shapes_whose_trees_are_all_above_sixty_places(self):
        shape = ("(start a (rule a k row (b 2 2) (c 2 2)) (rule b l row (c 2 2) (d 2 2) (e 2 2))"
                 "(rule c m mix (d 2 2) (e 2 2)) (rule d n row (e 2 many)) (rule e o row))")
        self.assert_told(shape, "(way (down (kind l)))", "(way (down (kind l)))")
        self.assert_told(shape, "(way (down (not (kind o))))", "(way (down any))")
        self.assert_told(shape, "(way (deep (kind l)) (later (kind m)))", "(way (deep (kind l)) (later (kind m)))")
        self.assert_told(shape, "(way (deep (kind n)) (down (kind o)))", "(way (deep (kind n)) (down any))")
        self.assert_told(shape, "(way (deep (both (kind m) (way (down (kind n)) (later any)))))",
                         "(way (deep (both (kind m) any)))")

    def test_looks_of_which_only_a_great_tree_speaks(self):
        for shape in SIZED.values():
            for text in ["(way (down (kind l)) (later (kind l)))",
                         "(way (down (both (kind m) (not (way (later (kind l)) (later (kind l)))))))",
                         "(way (down (either (kind l) (not (way (later (kind l)))))))"]:
                self.assert_shorter(shape, read_way(text))

    def test_forty_looks_and_twelve_deep(self):
        shape = read_shape("(start u (rule u a mix (u 0 many) (v 0 2) (w 0 many)) (rule v b row (u 0 2) (v 0 1))"
                           "(rule w c mix (u 0 1) (v 0 many)) (rule v a row (w 1 2)) (rule w b row))")
        for end in ["(kind a)", "(way (later (kind b)))", "(way (deep (kind c)) (later any))"]:
            look = end
            for number in range(5):
                look = "(either (both (not " + look + ") (kind b)) (both (kind a) (not (kind c))))"
            way = read_way("(way (deep " + look + "))")
            self.assertGreater(len(looks_in(way)), 40)
            self.assert_shorter(shape, way)
        wide = "(kind a)"
        for number in range(5):
            wide = "(both " + wide + " " + wide + ")"
        self.assert_shorter(shape, read_way("(way (down " + wide + ") (deep " + wide + ") (later " + wide + "))"))


if __name__ == "__main__":
    unittest.main()
