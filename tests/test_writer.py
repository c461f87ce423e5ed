"""Trees, shapes, ways and looks shown as texts, sign by sign, and read again."""

import random
import unittest

from helper import ANY, BOUNDS, LOOKS, NESTS, PlainCase, all_trees, broad, chain, mixed_tree, some_way, spellings
from pathshape.errors import PathError
from pathshape.reader import read_shape, read_tree, read_way
from pathshape.sound import sound
from pathshape.writer import show_look, show_shape, show_tree, show_way

MARK = ("mark",)

WITH_MARK = {"mark": MARK,
             "(not mark)": ("not", MARK),
             "(both mark (kind a))": ("both", MARK, ("kind", "a")),
             "(either any mark)": ("either", ANY, MARK),
             "(way (later mark))": ("way", (("later", MARK),)),
             "(way (down any) (deep mark))": ("way", (("down", ANY), ("deep", MARK)))}

# Shapes that aren't sound, with their texts.
UNSOUND = {"(start z (rule x a row))": ("z", (("x", "a", "row", ()),)),
           "(start x (rule x a row (y 1 1)))": ("x", (("x", "a", "row", (("y", 1, 1),)),)),
           "(start x (rule x a mix (x 0 1) (x 0 many)))": (
               "x", (("x", "a", "mix", (("x", 0, 1), ("x", 0, None))),)),
           "(start y (rule x a mix (z 2 2) (z 2 2)))": ("y", (("x", "a", "mix", (("z", 2, 2), ("z", 2, 2))),))}


def item_text(name, low, high):
    return "(" + name + " " + str(low) + " " + ("many" if high is None else str(high)) + ")"


class ShowCase(PlainCase):
    def assert_shown(self, shown, text):
        self.assertEqual(shown, text)
        self.assertIs(type(shown), str)

    def assert_read_again(self, show, read, value):
        text = show(value)
        self.assertEqual(read(text), value)
        self.assertEqual(show(read(text)), text)
        for spelling in [text.replace(" ", "\n"), text.replace("(", "  ( ").replace(")", "\n)\n "), "\n" + text + " "]:
            self.assertEqual(read(spelling), value)
            self.assertEqual(show(read(spelling)), text)

    def assert_each_spelling(self, show, read, text, value):
        self.assert_shown(show(value), text)
        for spelling in spellings(text):
            self.assertEqual(read(spelling), value)
            self.assert_shown(show(read(spelling)), text)


class ShowTreeTest(ShowCase):
    def test_a_tree_without_parts(self):
        self.assert_shown(show_tree(("a", ())), "(a)")
        self.assert_shown(show_tree(("abcdefgh", ())), "(abcdefgh)")

    def test_trees_with_parts(self):
        self.assert_shown(show_tree(("a", (("b", ()),))), "(a (b))")
        self.assert_shown(show_tree(("a", (("b", ()), ("c", ())))), "(a (b) (c))")
        self.assert_shown(show_tree(("a", (("b", (("c", ()),)), ("d", ())))), "(a (b (c)) (d))")
        self.assert_shown(show_tree(("a", (("b", ()), ("c", (("d", ()), ("e", ())))))), "(a (b) (c (d) (e)))")

    def test_a_chain_of_a_hundred_places(self):
        self.assert_shown(show_tree(chain(100)), "(a " * 99 + "(a" + ")" * 100)

    def test_places_with_many_parts(self):
        self.assert_shown(show_tree(broad(100)), "(a" + " (b)" * 99 + ")")
        self.assert_shown(show_tree(("a", (broad(50), ("c", ())))), "(a (a" + " (b)" * 49 + ") (c))")

    def test_a_tree_somewhat_beyond_the_bounds(self):
        self.assert_shown(show_tree(chain(300)), "(a " * 299 + "(a" + ")" * 300)
        self.assert_shown(show_tree(chain(3000)), "(a " * 2999 + "(a" + ")" * 3000)
        self.assert_shown(show_tree(broad(3000)), "(a" + " (b)" * 2999 + ")")

    def test_what_is_shown_is_read_to_the_same(self):
        for size in range(1, 6):
            for tree in all_trees(size, ["a", "bc"]):
                self.assert_read_again(show_tree, read_tree, tree)
        for seed in range(30):
            self.assert_read_again(show_tree, read_tree, mixed_tree(100, ["a", "b", "cdefghij", "later"], seed))
        self.assert_read_again(show_tree, read_tree, chain(100, "abcdefgh"))
        self.assert_read_again(show_tree, read_tree, broad(100, "abcdefgh", "hgfedcba"))

    def test_more_blanks_and_line_ends(self):
        self.assert_each_spelling(show_tree, read_tree, "(a (b (c)) (d))", ("a", (("b", (("c", ()),)), ("d", ()))))


class ShowShapeTest(ShowCase):
    def test_rules_without_items(self):
        self.assert_shown(show_shape(("x", (("x", "a", "row", ()),))), "(start x (rule x a row))")
        self.assert_shown(show_shape(("x", (("x", "a", "mix", ()),))), "(start x (rule x a mix))")

    def test_each_low_and_high(self):
        for order in ["row", "mix"]:
            for low, high in BOUNDS:
                shape = ("x", (("x", "a", order, (("x", low, high),)),))
                text = "(start x (rule x a " + order + " " + item_text("x", low, high) + "))"
                self.assert_each_spelling(show_shape, read_shape, text, shape)

    def test_rules_and_items_in_their_order(self):
        text = "(start book (rule book b row (page 1 many) (note 0 2)) (rule note n mix) (rule page p mix (note 0 1)))"
        shape = ("book", (("book", "b", "row", (("page", 1, None), ("note", 0, 2))),
                          ("note", "n", "mix", ()),
                          ("page", "p", "mix", (("note", 0, 1),))))
        self.assert_each_spelling(show_shape, read_shape, text, shape)

    def test_shapes_that_are_not_sound(self):
        for text, shape in UNSOUND.items():
            self.assertRaises(PathError, sound, shape)
            self.assert_each_spelling(show_shape, read_shape, text, shape)

    def test_eight_rules_of_three_items_and_more(self):
        items = (("aaaaaaaa", 0, None), ("bbbbbbbb", 1, 2), ("cccccccc", 2, 2))
        shown = " (aaaaaaaa 0 many) (bbbbbbbb 1 2) (cccccccc 2 2)"
        for rules, times in [(8, 1), (12, 1), (20, 2)]:
            shape = ("aaaaaaaa", (("aaaaaaaa", "bbbbbbbb", "row", items * times),) * rules)
            text = "(start aaaaaaaa" + (" (rule aaaaaaaa bbbbbbbb row" + shown * times + ")") * rules + ")"
            self.assert_shown(show_shape(shape), text)
            self.assert_read_again(show_shape, read_shape, shape)

    def test_pairs_of_items_are_read_to_the_same(self):
        for low, high in BOUNDS:
            for least, most in BOUNDS:
                items = (("x", low, high), ("y", least, most))
                shape = ("x", (("x", "a", "row", items), ("y", "b", "mix", items[::-1]), ("y", "c", "row", ())))
                self.assert_read_again(show_shape, read_shape, shape)


class ShowWayTest(ShowCase):
    def test_each_go(self):
        for go in ["down", "deep", "later"]:
            self.assert_each_spelling(show_way, read_way, "(way (" + go + " any))", ((go, ANY),))

    def test_steps_in_their_order(self):
        self.assert_each_spelling(show_way, read_way, "(way (down any) (deep (kind a)) (later any) (down (kind b)))",
                                  (("down", ANY), ("deep", ("kind", "a")), ("later", ANY), ("down", ("kind", "b"))))

    def test_each_sort_of_look(self):
        for text, look in (LOOKS | WITH_MARK).items():
            self.assert_shown(show_look(look), text)
            for go in ["down", "deep", "later"]:
                self.assert_shown(show_way(((go, look),)), "(way (" + go + " " + text + "))")

    def test_looks_in_looks(self):
        for text, look in (LOOKS | WITH_MARK).items():
            for ahead, behind, about in NESTS:
                for outer, end, whole in NESTS:
                    shown = outer + ahead + text + behind + end
                    self.assert_shown(show_look(whole(about(look))), shown)
                    self.assert_shown(show_way((("deep", whole(about(look))),)), "(way (deep " + shown + "))")

    def test_a_way_as_a_look_is_shown_like_the_way(self):
        for text, look in (LOOKS | WITH_MARK).items():
            way = (("down", look), ("later", look))
            self.assertEqual(show_look(("way", way)), show_way(way))
            self.assertEqual(show_way(way), "(way (down " + text + ") (later " + text + "))")

    def test_a_way_with_each_sort_of_look(self):
        text = "(way (deep (both (not (kind a)) (either any (way (later (kind b)) (down (not any)))))) (later any))"
        inner = ("way", (("later", ("kind", "b")), ("down", ("not", ANY))))
        look = ("both", ("not", ("kind", "a")), ("either", ANY, inner))
        self.assert_each_spelling(show_way, read_way, text, (("deep", look), ("later", ANY)))

    def test_looks_that_nest_twelve_deep_and_deeper(self):
        for ahead, behind, about in NESTS:
            for depth in [11, 30, 100]:
                look = MARK
                for number in range(depth):
                    look = about(look)
                self.assert_shown(show_look(look), ahead * depth + "mark" + behind * depth)
        look = ANY
        for number in range(3000):
            look = ("not", look)
        self.assert_shown(show_look(look), "(not " * 3000 + "any" + ")" * 3000)

    def test_a_look_of_forty_looks(self):
        look, text = ANY, "any"
        for number in range(19):
            look, text = ("both", look, ("kind", "a")), "(both " + text + " (kind a))"
        self.assert_shown(show_look(("not", look)), "(not " + text + ")")

    def test_what_is_shown_is_read_to_the_same(self):
        chance = random.Random(9)
        for number in range(300):
            self.assert_read_again(show_way, read_way, some_way(chance, number % 5 + 1))


if __name__ == "__main__":
    unittest.main()
