"""Questions about ways and a shape, held against all small trees of the shape."""

import random
import unittest

from helper import ANY, SIZED, PlainCase, finds_plainly, rich_shape, size_of, some_shape, some_way, trees_of
from pathshape.errors import TooGreat
from pathshape.marking import has
from pathshape.places import tree_at
from pathshape.questions import always, apart, can, finds_all, kinds_found, same
from pathshape.reader import read_shape, read_tree, read_way
from pathshape.sound import steps_in
from pathshape.walk import finds

NO_TREES = [read_shape("(start x (rule x a row (x 1 1)))"),
            read_shape("(start x (rule x a mix (y 1 2)) (rule y b row (x 1 many) (z 0 1)) (rule z a row))"),
            read_shape("(start x (rule y a row) (rule x a row (y 0 2) (x 2 2)))")]

WAYS = [read_way(text) for text in [
    "(way (down any))", "(way (deep any))", "(way (later any))", "(way (down (kind a)))", "(way (deep (kind b)))",
    "(way (down any) (down any))", "(way (deep (kind a)) (later any))", "(way (down (not (kind a))))",
    "(way (deep (both (kind b) (way (down any)))))", "(way (down (either (kind a) (way (later (kind b))))))",
    "(way (deep (not (way (later any)))))", "(way (deep any) (deep any) (down (kind a)))",
    "(way (down (way (deep (kind b)) (later any))))", "(way (down any) (later (not (kind b))))"]]


def some_small_way(chance):
    """Some way of at most three steps in all."""
    while True:
        way = some_way(chance, chance.choice([1, 2, 3, 4]))
        if steps_in(("way", way)) <= 3:
            return way


def one_change(chance, way):
    """The way with another go or another look at one of its steps."""
    k = chance.randrange(len(way))
    go, look = way[k]
    if chance.random() < 0.5:
        step = (chance.choice([other for other in ("down", "deep", "later") if other != go]), look)
    else:
        step = (go, chance.choice([ANY, ("kind", "a"), ("not", look), ("both", look, ("kind", "b")),
                                   ("either", look, ("kind", "a"))]))
    return way[:k] + (step,) + way[k + 1:]


class QuestionsCase(PlainCase):
    def assert_answer(self, told, shape, trees, shown, word, none):
        """The answer to a question of which shown(tree) gives the places of the tree that show it."""
        self.assertIs(type(told), tuple)
        self.assert_plain(told)
        first = next((tree for tree in trees if shown(tree)), None)
        if told == (none,):
            self.assertIsNone(first, shape)
            return
        self.assertEqual(told[0], word)
        self.assertEqual(len(told), 3)
        tree, place = told[1:]
        self.assertTrue(has(shape, tree), (shape, tree))
        self.assertIn(place, shown(tree), (shape, tree))
        if first is not None:
            self.assertEqual(size_of(tree), size_of(first), (shape, tree, first))
        elif trees:
            self.assertGreater(size_of(tree), size_of(trees[-1]), (shape, tree))

    def assert_one(self, shape, trees, way):
        found = {}

        def places(tree):
            if tree not in found:
                found[tree] = finds(tree, way)
            return found[tree]

        self.assert_answer(can(shape, way), shape, trees, places, "finds", "never")
        told = always(shape, way)
        if len(told) == 2:
            told = told + ((),)
        self.assert_answer(told, shape, trees, lambda tree: [] if places(tree) else [()], "not", "always")
        self.assert_kinds(shape, trees, way)

    def assert_kinds(self, shape, trees, way):
        told = kinds_found(shape, way)
        self.assertIs(type(told), list)
        self.assertEqual(told, sorted(set(told)))
        seen = {tree_at(tree, place)[0] for tree in trees for place in finds(tree, way)}
        self.assertLessEqual(seen, set(told))
        for kind in {rule[1] for rule in shape[1]}:
            last = way[:-1] + ((way[-1][0], ("both", way[-1][1], ("kind", kind))),)
            self.assertEqual(kind in told, can(shape, last) != ("never",))

    def assert_two(self, shape, trees, way, other):
        found = {}

        def both(tree):
            if tree not in found:
                found[tree] = (finds(tree, way), finds(tree, other))
            return found[tree]

        def lacking(tree):
            return [place for place in both(tree)[1] if place not in both(tree)[0]]

        def shared(tree):
            return [place for place in both(tree)[1] if place in both(tree)[0]]

        def parted(tree):
            return sorted(set(both(tree)[0]) ^ set(both(tree)[1]))

        self.assert_answer(finds_all(shape, way, other), shape, trees, lacking, "but", "all")
        self.assert_answer(apart(shape, way, other), shape, trees, shared, "both", "apart")
        self.assert_answer(same(shape, way, other), shape, trees, parted, "but", "same")


class ByHandTest(QuestionsCase):
    BOOK = read_shape("(start b (rule b book row (h 0 1) (p 1 many)) (rule h head row) (rule p page mix (n 0 2))"
                      "(rule n note row))")

    def assert_told(self, told, word, text=None, place=None):
        rest = () if text is None else (read_tree(text),) if place is None else (read_tree(text), place)
        self.assertEqual(told, (word,) + rest)
        self.assert_plain(told)

    def test_can(self):
        self.assert_told(can(self.BOOK, read_way("(way (down any))")), "finds", "(book (page))", (0,))
        self.assert_told(can(self.BOOK, read_way("(way (down (kind head)))")), "finds", "(book (head) (page))", (0,))
        self.assert_told(can(self.BOOK, read_way("(way (deep (kind note)))")), "finds", "(book (page (note)))", (0, 0))
        self.assert_told(can(self.BOOK, read_way("(way (down (kind note)))")), "never")
        self.assert_told(can(self.BOOK, read_way("(way (later any))")), "never")
        self.assert_told(can(self.BOOK, read_way("(way (deep (kind book)))")), "never")
        self.assert_told(can(self.BOOK, read_way("(way (down (kind page)) (later (kind head)))")), "never")
        self.assert_told(can(self.BOOK, read_way("(way (deep any) (later any) (later (kind note)))")), "never")
        self.assert_told(can(self.BOOK, read_way("(way (down (both (kind page) (not (way (later any))))) (later any))")),
                         "never")

    def test_always(self):
        self.assert_told(always(self.BOOK, read_way("(way (down any))")), "always")
        self.assert_told(always(self.BOOK, read_way("(way (deep (not (way (down any)))))")), "always")
        self.assert_told(always(self.BOOK, read_way("(way (down any) (down any))")), "not", "(book (page))")
        self.assert_told(always(self.BOOK, read_way("(way (down (not (way (down any)))))")), "not",
                         "(book (page (note)))")
        self.assert_told(always(self.BOOK, read_way("(way (later any))")), "not", "(book (page))")

    def test_finds_all(self):
        wide, near = read_way("(way (deep any))"), read_way("(way (down any))")
        self.assert_told(finds_all(self.BOOK, wide, near), "all")
        self.assert_told(finds_all(self.BOOK, near, wide), "but", "(book (page (note)))", (0, 0))
        self.assert_told(finds_all(self.BOOK, near, near), "all")
        pages = read_way("(way (down (kind page)))")
        self.assert_told(finds_all(self.BOOK, pages, near), "but", "(book (head) (page))", (0,))
        self.assert_told(finds_all(self.BOOK, read_way("(way (down (not (kind head))))"), pages), "all")

    def test_apart(self):
        pages, heads = read_way("(way (down (kind page)))"), read_way("(way (down (kind head)))")
        self.assert_told(apart(self.BOOK, pages, heads), "apart")
        self.assert_told(apart(self.BOOK, pages, pages), "both", "(book (page))", (0,))
        last = read_way("(way (down (not (way (later any)))))")
        self.assert_told(apart(self.BOOK, heads, last), "apart")
        word, tree, place = apart(self.BOOK, read_way("(way (down any) (later any))"), last)
        self.assertEqual((word, place), ("both", (1,)))
        self.assertIn(tree, [read_tree("(book (head) (page))"), read_tree("(book (page) (page))")])

    def test_same(self):
        self.assert_told(same(self.BOOK, read_way("(way (down (kind page)))"),
                              read_way("(way (deep (not (either (kind head) (kind note)))))")), "same")
        self.assert_told(same(self.BOOK, read_way("(way (down any))"), read_way("(way (down (kind page)))")), "but",
                         "(book (head) (page))", (0,))
        self.assert_told(same(self.BOOK, read_way("(way (down (kind page)))"), read_way("(way (down any))")), "but",
                         "(book (head) (page))", (0,))
        self.assert_told(same(self.BOOK, read_way("(way (down any) (down any))"), read_way("(way (deep (kind note)))")),
                         "same")

    def test_kinds_found(self):
        self.assertEqual(kinds_found(self.BOOK, read_way("(way (deep any))")), ["head", "note", "page"])
        self.assertEqual(kinds_found(self.BOOK, read_way("(way (down any))")), ["head", "page"])
        self.assertEqual(kinds_found(self.BOOK, read_way("(way (down any) (later any))")), ["page"])
        self.assertEqual(kinds_found(self.BOOK, read_way("(way (later any))")), [])
        self.assertEqual(kinds_found(self.BOOK, read_way("(way (deep (kind book)))")), [])

    def test_kinds_that_no_tree_of_the_shape_may_have(self):
        shape = read_shape("(start x (rule x a mix (y 0 many) (z 0 1) (x 0 1)) (rule y b row) (rule z c row (z 1 1))"
                           "(rule w d row (x 1 1)) (rule y b row (y 1 1)))")
        self.assertEqual(kinds_found(shape, read_way("(way (deep any))")), ["a", "b"])
        self.assertEqual(kinds_found(shape, read_way("(way (deep (not (kind b))))")), ["a"])
        self.assertEqual(can(shape, read_way("(way (deep (kind c)))")), ("never",))
        self.assertEqual(can(shape, read_way("(way (deep (kind d)))")), ("never",))

    def test_kinds_are_sorted_as_texts_are(self):
        shape = read_shape("(start x (rule x b mix (x 0 1) (y 0 1) (z 0 1)) (rule y aa row) (rule z a row)"
                           "(rule z ab row) (rule y b row))")
        self.assertEqual(kinds_found(shape, read_way("(way (down any))")), ["a", "aa", "ab", "b"])


class NoTreesTest(QuestionsCase):
    def test_shapes_of_which_no_tree_is(self):
        for shape in NO_TREES:
            for way in WAYS:
                self.assertEqual(can(shape, way), ("never",))
                self.assertEqual(always(shape, way), ("always",))
                self.assertEqual(kinds_found(shape, way), [])
                for other in WAYS[::3]:
                    self.assertEqual(finds_all(shape, way, other), ("all",))
                    self.assertEqual(apart(shape, way, other), ("apart",))
                    self.assertEqual(same(shape, way, other), ("same",))

    def test_shapes_in_which_some_names_have_no_tree(self):
        shape = read_shape("(start x (rule x a mix (y 0 2) (z 0 many)) (rule y b row (y 1 1)) (rule z a row (x 0 1)))")
        trees = trees_of(shape, 6)
        for way in WAYS:
            self.assert_one(shape, trees, way)
            for other in WAYS:
                self.assert_two(shape, trees, way, other)


class SmallTreesTest(QuestionsCase):
    def test_the_trees_gone_through_are_found_in_plainly(self):
        chance = random.Random(80)
        for number in range(60):
            way = some_small_way(chance)
            for tree in trees_of(rich_shape(chance), 4)[::5]:
                self.assertEqual(finds(tree, way), finds_plainly(tree, way, ()))

    def test_the_ways_above(self):
        for text in ["(start x (rule x a mix (x 0 many) (y 0 many)) (rule y b row (x 0 2)))",
                     "(start x (rule x a row (y 1 2) (x 0 1)) (rule y b row) (rule y a mix (x 0 1)))",
                     "(start x (rule x a row (x 2 2) (y 0 1)) (rule x b row) (rule y a mix (x 1 1) (y 0 1)))"]:
            shape = read_shape(text)
            trees = trees_of(shape, 5)
            for way in WAYS:
                self.assert_one(shape, trees, way)
                for other in WAYS:
                    self.assert_two(shape, trees, way, other)

    def test_some_shapes_and_ways(self):
        chance = random.Random(81)
        for number in range(80):
            shape = some_shape(chance) if number % 4 == 0 else rich_shape(chance)
            trees = trees_of(shape, 5)
            for count in range(5):
                way = some_small_way(chance)
                self.assert_one(shape, trees, way)
                self.assert_two(shape, trees, way, some_small_way(chance))

    def test_ways_alike_but_for_a_look_or_a_go(self):
        chance = random.Random(82)
        for number in range(80):
            shape = rich_shape(chance)
            trees = trees_of(shape, 5)
            for count in range(5):
                way = some_small_way(chance)
                other = one_change(chance, way)
                self.assert_two(shape, trees, way, other)
                self.assert_two(shape, trees, other, way)

    def test_great_trees_told_are_no_greater_than_they_must_be(self):
        # Trees of up to seven places, of shapes that have few of them.
        chance = random.Random(83)
        done = 0
        while done < 15:
            shape = rich_shape(chance)
            if 5 < len(trees_of(shape, 5)) < 40:
                trees = trees_of(shape, 7)
                done += 1
                for count in range(8):
                    way = some_small_way(chance)
                    self.assert_one(shape, trees, way)
                    self.assert_two(shape, trees, way, one_change(chance, way))
                    self.assert_two(shape, trees, way, some_small_way(chance))


class SizeTest(QuestionsCase):
    SECOND = read_way("(way (down (kind l)) (later (kind l)))")
    # Finds something but where there are two later brothers of the kind l.
    FEWER = read_way("(way (down (both (kind m) (not (way (later (kind l)) (later (kind l)))))))")
    NOTHING = read_way("(way (later any))")
    FIRST = read_way("(way (down (kind l)))")

    def assert_sized(self, word, places, question, *ways):
        """Of trees of 60 places and of 61, the second part of the kind l being at (3,)."""
        told = question(SIZED[60], *ways)
        self.assert_plain(told)
        self.assertEqual((told[0],) + told[2:], (word,) + places)
        self.assertTrue(has(SIZED[60], told[1]))
        self.assertEqual(size_of(told[1]), 60)
        refused = self.assert_refusal(TooGreat, question, SIZED[61], *ways)
        self.assertEqual(refused.size, 61)
        self.assertIs(type(refused.size), int)

    def test_sixty_is_told_and_sixty_one_is_refused(self):
        self.assert_sized("finds", ((3,),), can, self.SECOND)
        self.assert_sized("not", (), always, self.FEWER)
        self.assert_sized("but", ((3,),), finds_all, self.NOTHING, self.SECOND)
        self.assert_sized("both", ((3,),), apart, self.SECOND, self.FIRST)
        self.assert_sized("both", ((3,),), apart, self.FIRST, self.SECOND)
        self.assert_sized("but", ((3,),), same, self.NOTHING, self.SECOND)
        self.assert_sized("but", ((3,),), same, self.SECOND, self.NOTHING)

    def test_answers_without_a_tree_are_never_refused(self):
        for shape in SIZED.values():
            self.assertEqual(can(shape, self.NOTHING), ("never",))
            self.assertEqual(always(shape, read_way("(way (down (kind m)))")), ("always",))
            self.assertEqual(finds_all(shape, self.FIRST, self.SECOND), ("all",))
            self.assertEqual(apart(shape, self.FEWER, self.SECOND), ("apart",))
            self.assertEqual(same(shape, self.SECOND, self.SECOND), ("same",))

    def test_kinds_of_great_trees(self):
        for shape in SIZED.values():
            self.assertEqual(kinds_found(shape, self.SECOND), ["l"])
            self.assertEqual(kinds_found(shape, read_way("(way (deep any))")), ["l", "m", "n", "o"])

    def test_greater_trees(self):
        shape = read_shape("(start a (rule a k row (b 2 2) (c 2 2)) (rule b l row (c 2 2) (d 2 2) (e 2 2))"
                           "(rule c m mix (d 2 2) (e 2 2)) (rule d n row (e 2 many)) (rule e o row))")
        parts = read_way("(way (down any))")
        for question, ways in [(can, [parts]), (always, [self.NOTHING]), (finds_all, [self.NOTHING, parts]),
                               (apart, [parts, parts]), (same, [self.NOTHING, parts]), (same, [parts, self.NOTHING])]:
            self.assertEqual(self.assert_refusal(TooGreat, question, shape, *ways).size, 73)
        self.assertEqual(kinds_found(shape, read_way("(way (deep any) (later any))")), ["l", "m", "n", "o"])


class OwnTest(QuestionsCase):
    def test_what_is_told_is_the_askers_own(self):
        shape, way = ByHandTest.BOOK, read_way("(way (deep any))")
        told = kinds_found(shape, way)
        told.append("zz")
        told.pop(0)
        self.assertEqual(kinds_found(shape, way), ["head", "note", "page"])

    def test_the_same_answers_again(self):
        chance = random.Random(84)
        for number in range(20):
            shape, way = rich_shape(chance), some_small_way(chance)
            other = one_change(chance, way)
            for question in [finds_all, apart, same]:
                self.assertEqual(question(shape, way, other), question(shape, way, other))
            self.assertEqual((can(shape, way), always(shape, way)), (can(shape, way), always(shape, way)))


class BoundsTest(QuestionsCase):
    def test_great_shapes_and_ways_and_somewhat_beyond(self):
        chance = random.Random(85)
        for count, steps in [(5, 3), (5, 3), (5, 3), (8, 4)] * 5:
            names = "pqrstuvw"[:count]
            shape = ("p", tuple((name, chance.choice("ab"), chance.choice(["row", "mix"]), tuple(
                (item, *chance.choice([(0, 1), (0, 2), (0, None)])) for item in chance.sample(names, 3)))
                for name in names))
            ways = []
            while len(ways) < 2:
                way = some_way(chance, 5)
                if steps_in(("way", way)) == steps:
                    ways.append(way)
            trees = trees_of(shape, 3)
            self.assert_one(shape, trees, ways[0])
            self.assert_two(shape, trees, ways[0], ways[1])


if __name__ == "__main__":
    unittest.main()
