"""Sound shapes and those that aren't; the steps in all of a look."""

import copy
import unittest

from helper import PlainCase
from pathshape.errors import NoRule, Twice
from pathshape.reader import read_shape, read_way
from pathshape.sound import sound, steps_in

ANY = ("any",)
KIND = ("kind", "a")
MARK = ("mark",)


def shape_of(start, *rules):
    """A shape by the names of its rules and their items: "x: y z" is a rule x with the items y and z."""
    made = []
    for text in rules:
        name, items = text.split(":")
        made.append((name, "a", "row", tuple((item, 0, 1) for item in items.split())))
    return (start, tuple(made))


class SoundTest(PlainCase):
    def assert_sound(self, shape):
        kept = copy.deepcopy(shape)
        self.assertIs(sound(shape), True)
        self.assertEqual(shape, kept)

    def assert_not_sound(self, refusal, name, shape):
        kept = copy.deepcopy(shape)
        for again in range(2):
            error = self.assert_refusal(refusal, sound, shape)
            self.assertEqual(error.name, name)
            self.assertIs(type(error.name), str)
            self.assertEqual(shape, kept)

    def test_sound_shapes(self):
        self.assert_sound(shape_of("x", "x:"))
        self.assert_sound(shape_of("x", "x: x"))
        self.assert_sound(shape_of("x", "x: y z", "y: z", "z: x y z"))
        self.assert_sound(shape_of("z", "x: y", "y: x", "z:"))
        self.assert_sound(read_shape("(start b (rule b book mix (p 0 0) (b 2 many)) (rule p page row))"))

    def test_several_rules_of_one_name_or_kind(self):
        self.assert_sound(shape_of("x", "x: y", "x: y", "y:", "y: x"))
        self.assert_sound(("x", (("x", "a", "row", ()), ("x", "b", "mix", (("x", 0, 1),)), ("x", "a", "row", ()))))

    def test_the_same_items_in_several_rules(self):
        self.assert_sound(shape_of("x", "x: x y", "y: x y", "x: y x"))

    def test_kinds_are_no_rules(self):
        self.assert_not_sound(NoRule, "a", ("a", (("x", "a", "row", ()),)))
        self.assert_not_sound(NoRule, "a", ("x", (("x", "a", "row", (("a", 0, 1),)),)))

    def test_eight_rules_of_three_items_and_more(self):
        names = ["x" + letter for letter in "abcdefghijkl"]
        for count in [8, 12]:
            rules = [name + ": " + " ".join(names[:3]) for name in names[:count]]
            self.assert_sound(shape_of(names[count - 1], *rules))
            self.assert_not_sound(NoRule, "xz", shape_of(names[0], *rules[:-1], names[count - 1] + ": xa xz"))
            self.assert_not_sound(Twice, "xb", shape_of(names[0], *rules[:-1], names[count - 1] + ": xa xb xb"))
        self.assert_sound(shape_of("xa", *[name + ": " + " ".join(names) for name in names]))

    def test_an_item_twice(self):
        self.assert_not_sound(Twice, "x", shape_of("x", "x: x x"))
        self.assert_not_sound(Twice, "x", shape_of("x", "x: x y x", "y:"))
        self.assert_not_sound(Twice, "y", shape_of("x", "x: x y y", "y:"))
        self.assert_not_sound(Twice, "y", shape_of("x", "x: x", "y: y y"))

    def test_an_item_twice_with_other_bounds_or_in_mix(self):
        for order in ["row", "mix"]:
            items = (("x", 0, 0), ("x", 1, None))
            self.assert_not_sound(Twice, "x", ("x", (("x", "a", order, items),)))

    def test_the_first_of_several_twice(self):
        self.assert_not_sound(Twice, "x", shape_of("x", "x: x y x y", "y:"))
        self.assert_not_sound(Twice, "y", shape_of("x", "x: x y y x", "y:"))
        self.assert_not_sound(Twice, "y", shape_of("x", "x: x y", "y: x y y", "x: x x"))
        self.assert_not_sound(Twice, "x", shape_of("x", "x: x y", "x: x x", "y: y y"))
        self.assert_not_sound(Twice, "z", shape_of("x", "x: z z", "y: a a", "z:"))

    def test_a_start_without_a_rule(self):
        self.assert_not_sound(NoRule, "y", shape_of("y", "x:"))
        self.assert_not_sound(NoRule, "y", shape_of("y", "x: x", "z: x"))

    def test_an_item_without_a_rule(self):
        self.assert_not_sound(NoRule, "y", shape_of("x", "x: y"))
        self.assert_not_sound(NoRule, "y", shape_of("x", "x: x y"))
        self.assert_not_sound(NoRule, "y", shape_of("x", "x: x", "z: y x"))

    def test_an_item_without_a_rule_of_which_there_is_none(self):
        self.assert_not_sound(NoRule, "y", ("x", (("x", "a", "row", (("y", 0, 0),)),)))

    def test_the_first_of_several_without_a_rule(self):
        self.assert_not_sound(NoRule, "z", shape_of("z", "x: y"))
        self.assert_not_sound(NoRule, "z", shape_of("x", "x: z y"))
        self.assert_not_sound(NoRule, "y", shape_of("x", "x: y z", "x: z y"))
        self.assert_not_sound(NoRule, "z", shape_of("x", "x: x", "x: x z", "x: y"))
        self.assert_not_sound(NoRule, "b", shape_of("x", "x: x b a"))

    def test_twice_comes_ahead_of_no_rule(self):
        self.assert_not_sound(Twice, "x", shape_of("y", "x: x x"))
        self.assert_not_sound(Twice, "y", shape_of("x", "x: y y"))
        self.assert_not_sound(Twice, "z", shape_of("y", "x: a b c", "x: d", "x: z z"))
        self.assert_not_sound(Twice, "z", shape_of("x", "x: y z z"))

    def test_a_shape_without_any_tree_is_sound(self):
        self.assert_sound(("x", (("x", "a", "row", (("x", 1, 1),)),)))


class StepsInTest(PlainCase):
    def assert_steps(self, look, count):
        self.assertEqual(steps_in(look), count)
        self.assertIs(type(steps_in(look)), int)

    def test_looks_without_ways(self):
        for look in [ANY, KIND, MARK, ("not", ANY), ("both", ANY, KIND), ("either", MARK, ("not", KIND)),
                     ("not", ("both", ("either", ANY, ANY), ("not", MARK)))]:
            self.assert_steps(look, 0)

    def test_kinds_called_like_goes(self):
        for kind in ["down", "deep", "later", "from", "step"]:
            self.assert_steps(("kind", kind), 0)
            self.assert_steps(("way", (("down", ("kind", kind)),)), 1)

    def test_a_way_of_some_steps(self):
        for count in [1, 2, 3, 7, 40, 100]:
            for go in ["down", "deep", "later"]:
                self.assert_steps(("way", ((go, KIND),) * count), count)

    def test_ways_within_each_sort_of_look(self):
        one = ("way", (("down", ANY),))
        two = ("way", (("later", MARK), ("deep", KIND)))
        self.assert_steps(("not", one), 1)
        self.assert_steps(("not", ("not", two)), 2)
        for sort in ["both", "either"]:
            self.assert_steps((sort, one, ANY), 1)
            self.assert_steps((sort, KIND, two), 2)
            self.assert_steps((sort, one, two), 3)
            self.assert_steps((sort, ("not", one), (sort, two, two)), 5)

    def test_the_same_way_twice(self):
        two = ("way", (("later", ANY), ("deep", KIND)))
        self.assert_steps(("both", two, two), 4)
        self.assert_steps(("either", ("both", two, two), ("not", two)), 6)
        self.assert_steps(("way", (("down", two), ("down", two))), 6)

    def test_ways_within_the_looks_of_steps(self):
        inner = ("way", (("down", ANY),))
        middle = ("way", (("down", inner), ("later", ANY)))
        self.assert_steps(middle, 3)
        self.assert_steps(("way", (("deep", ("not", middle)),)), 4)
        self.assert_steps(("way", (("deep", ANY), ("down", ("both", middle, inner)), ("down", ANY))), 7)

    def test_of_ways_that_were_read(self):
        self.assert_steps(("way", read_way("(way (down (way (down (way (later any)) ) (deep any))) (deep any))")), 5)

    def test_twelve_deep_forty_looks_and_beyond(self):
        look = ANY
        for depth in range(1, 300):
            look = ("way", (("down", look), ("later", MARK)))
            self.assert_steps(look, 2 * depth)
        for depth in range(3000):
            look = ("not", look)
        self.assert_steps(look, 2 * 299)
        wide = ANY
        for number in range(19):
            wide = ("both", wide, ("way", (("later", KIND),)))
        self.assert_steps(wide, 19)


if __name__ == "__main__":
    unittest.main()
