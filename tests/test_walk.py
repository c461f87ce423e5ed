"""What ways find in a tree, and where looks hold."""

import random
import unittest

from helper import ANY, LOOKS, PlainCase, all_trees, broad, chain, finds_plainly, holds_plainly, mixed_tree
from helper import some_look, some_way
from pathshape.places import all_places
from pathshape.reader import read_tree, read_way
from pathshape.walk import finds, holds

A = ("kind", "a")
B = ("kind", "b")
C = ("kind", "c")

TREE = read_tree("(a (b (a) (c (b))) (b) (c (b (a))))")

GOES = ["down", "deep", "later"]


def way_look(*steps):
    return ("way", steps)


class WalkCase(PlainCase):
    def assert_told(self, told, places, what=None):
        self.assertEqual(told, places, what)
        self.assertIs(type(told), list)
        for place in told:
            self.assert_plain(place)

    def assert_holds(self, look, *places):
        self.assert_told(holds(TREE, look), list(places), look)

    def assert_finds(self, text, *places):
        self.assert_told(finds(TREE, read_way(text)), list(places), text)


class HoldsTest(WalkCase):
    def test_any(self):
        self.assert_holds(ANY, *all_places(TREE))

    def test_kind(self):
        self.assert_holds(A, (), (0, 0), (2, 0, 0))
        self.assert_holds(B, (0,), (0, 1, 0), (1,), (2, 0))
        self.assert_holds(C, (0, 1), (2,))

    def test_the_kind_of_no_place(self):
        self.assert_holds(("kind", "d"))
        self.assert_holds(("not", ("kind", "d")), *all_places(TREE))
        self.assert_holds(way_look(("deep", ("kind", "d"))))

    def test_not(self):
        self.assert_holds(("not", ANY))
        self.assert_holds(("not", B), (), (0, 0), (0, 1), (2,), (2, 0, 0))
        self.assert_holds(("not", ("not", C)), (0, 1), (2,))

    def test_both(self):
        self.assert_holds(("both", A, B))
        self.assert_holds(("both", B, ANY), (0,), (0, 1, 0), (1,), (2, 0))
        self.assert_holds(("both", ("not", A), ("not", B)), (0, 1), (2,))
        self.assert_holds(("both", B, way_look(("down", ANY))), (0,), (2, 0))
        self.assert_holds(("both", way_look(("down", ANY)), B), (0,), (2, 0))

    def test_either(self):
        self.assert_holds(("either", A, C), (), (0, 0), (0, 1), (2,), (2, 0, 0))
        self.assert_holds(("either", ("kind", "d"), C), (0, 1), (2,))
        self.assert_holds(("either", C, ("kind", "d")), (0, 1), (2,))
        self.assert_holds(("either", C, C), (0, 1), (2,))
        self.assert_holds(("either", ("not", ANY), ("kind", "d")))

    def test_a_way_by_each_go(self):
        self.assert_holds(way_look(("down", ANY)), (), (0,), (0, 1), (2,), (2, 0))
        self.assert_holds(way_look(("down", A)), (0,), (2, 0))
        self.assert_holds(way_look(("deep", A)), (), (0,), (2,), (2, 0))
        self.assert_holds(way_look(("later", ANY)), (0,), (0, 0), (1,))
        self.assert_holds(way_look(("later", B)), (0,))

    def test_a_way_of_several_steps(self):
        self.assert_holds(way_look(("down", B), ("down", A)), (), (2,))
        self.assert_holds(way_look(("down", B), ("later", C)), ())
        self.assert_holds(way_look(("later", C), ("down", B)), (0,), (0, 0), (1,))
        self.assert_holds(way_look(("down", ANY), ("down", ANY), ("down", ANY)), ())
        self.assert_holds(way_look(("deep", C), ("deep", A)), ())

    def test_a_way_of_whose_steps_only_the_first_leads_on(self):
        self.assert_holds(way_look(("down", A), ("down", ANY)))
        self.assert_holds(way_look(("later", ANY), ("later", ANY)), (0,))

    def test_ways_within_ways(self):
        leaf = ("not", way_look(("down", ANY)))
        self.assert_holds(leaf, (0, 0), (0, 1, 0), (1,), (2, 0, 0))
        self.assert_holds(way_look(("down", ("both", B, leaf))), (), (0, 1))
        self.assert_holds(way_look(("deep", way_look(("later", leaf)))), ())
        self.assert_holds(way_look(("down", way_look(("down", leaf))), ("later", leaf)), ())
        self.assert_holds(way_look(("down", way_look(("later", C)))), (), (0,))

    def test_the_top_has_no_brothers(self):
        for tree in [TREE, chain(20), broad(20), ("a", ())]:
            self.assertNotIn((), holds(tree, way_look(("later", ANY))))
            self.assertIn((), holds(tree, ("not", way_look(("later", ANY)))))

    def test_a_tree_of_one_place(self):
        for look in LOOKS.values():
            self.assert_told(holds(("a", ()), look), [()] if holds_plainly(("a", ()), look, ()) else [])

    def test_against_the_plain_words(self):
        chance = random.Random(21)
        trees = [tree for size in range(1, 5) for tree in all_trees(size, ["a", "b"])]
        for number in range(1500):
            look = some_look(chance, number % 5 + 1)
            tree = chance.choice(trees) if number % 2 == 0 else mixed_tree(12, ["a", "b"], number)
            plain = [place for place in all_places(tree) if holds_plainly(tree, look, place)]
            self.assert_told(holds(tree, look), plain, (tree, look))


class FindsTest(WalkCase):
    def test_each_go_from_the_top(self):
        self.assert_finds("(way (down any))", (0,), (1,), (2,))
        self.assert_finds("(way (deep any))", *all_places(TREE)[1:])
        self.assert_finds("(way (later any))")

    def test_looks_at_steps(self):
        self.assert_finds("(way (down (kind b)))", (0,), (1,))
        self.assert_finds("(way (deep (kind a)))", (0, 0), (2, 0, 0))
        self.assert_finds("(way (deep (not (kind b))))", (0, 0), (0, 1), (2,), (2, 0, 0))
        self.assert_finds("(way (down (kind d)))")
        self.assert_finds("(way (deep (not any)))")
        self.assert_finds("(way (deep (both (kind b) (way (later any)))))", (0,), (1,))
        self.assert_finds("(way (deep (either (kind c) (way (down (kind c))))))", (0,), (0, 1), (2,))

    def test_several_steps(self):
        self.assert_finds("(way (down any) (down any))", (0, 0), (0, 1), (2, 0))
        self.assert_finds("(way (down (kind b)) (later any))", (1,), (2,))
        self.assert_finds("(way (down any) (later any) (down any))", (2, 0))
        self.assert_finds("(way (deep (kind c)) (down (kind b)) (down any))", (2, 0, 0))
        self.assert_finds("(way (down (kind a)) (down any))")
        self.assert_finds("(way (down any) (down any) (down any) (down any))")

    def test_a_way_that_begins_with_later_finds_nothing(self):
        for tree in [TREE, ("a", ()), chain(100), broad(100)]:
            for rest in [(), (("down", ANY),), (("later", ANY), ("deep", A))]:
                self.assert_told(finds(tree, (("later", ANY),) + rest), [])

    def test_places_are_found_once(self):
        self.assert_finds("(way (deep any) (deep any))", (0, 0), (0, 1), (0, 1, 0), (2, 0), (2, 0, 0))
        self.assert_finds("(way (down any) (later any))", (1,), (2,))
        self.assert_finds("(way (deep any) (deep any) (deep any))", (0, 1, 0), (2, 0, 0))
        self.assert_finds("(way (down any) (later any) (later any))", (2,))

    def test_places_are_sorted(self):
        self.assert_finds("(way (deep (kind b)) (down any))", (0, 0), (0, 1), (2, 0, 0))
        places = [(k,) for k in range(1, 99)]
        self.assert_told(finds(broad(100), (("down", ANY), ("later", ANY))), places)
        self.assert_told(finds(chain(100), (("deep", ANY), ("deep", ANY))), [(0,) * k for k in range(2, 100)])

    def test_the_look_is_asked_where_a_step_leads(self):
        self.assert_told(finds(("a", (("b", ()),)), (("down", A),)), [])
        self.assert_told(finds(("a", (("b", ()),)), (("down", B),)), [(0,)])

    def test_a_tree_of_one_place(self):
        for go in GOES:
            self.assert_told(finds(("a", ()), ((go, ANY),)), [])

    def test_a_way_finds_from_the_top_where_its_look_holds_there(self):
        chance = random.Random(22)
        for number in range(300):
            way = some_way(chance, number % 4 + 1)
            tree = mixed_tree(9, ["a", "b"], number)
            self.assertEqual(finds(tree, way) != [], () in holds(tree, ("way", way)))

    def test_against_the_plain_words(self):
        chance = random.Random(23)
        trees = [tree for size in range(1, 5) for tree in all_trees(size, ["a", "b"])]
        for number in range(1500):
            way = some_way(chance, number % 4 + 1)
            tree = chance.choice(trees) if number % 2 == 0 else mixed_tree(14, ["a", "b"], number)
            self.assert_told(finds(tree, way), finds_plainly(tree, way, ()), (tree, way))


class GreatTest(WalkCase):
    def great_look(self):
        """Forty looks, twelve deep."""
        look = way_look(("deep", ANY))
        for number in range(5):
            look = ("either", A, ("not", way_look(("deep", ("both", look, ("not", B))), ("later", C))))
        return look

    def great_trees(self):
        return [chain(100), broad(100), chain(100, "b"), broad(100, "b", "a")] + [
            mixed_tree(100, ["a", "b", "c"], seed) for seed in range(4)]

    def test_great_looks_in_great_trees(self):
        for tree in self.great_trees():
            told = holds(tree, self.great_look())
            self.assert_told(told, sorted(told))
            places = set(all_places(tree))
            refused = holds(tree, ("not", self.great_look()))
            self.assertEqual(set(told) | set(refused), places)
            self.assertEqual(set(told) & set(refused), set())

    def test_many_steps_in_great_trees(self):
        self.assert_told(finds(chain(100), (("down", ANY),) * 40), [(0,) * 40])
        self.assert_told(finds(chain(100), (("deep", ANY),) * 40), [(0,) * k for k in range(40, 100)])
        self.assert_told(finds(broad(100), (("down", B),) + (("later", B),) * 38), [(k,) for k in range(38, 99)])
        self.assert_told(holds(chain(100), ("way", (("deep", ANY),) * 40)), [(0,) * k for k in range(60)])
        self.assert_told(holds(broad(100), ("way", (("later", ANY),) * 40)), [(k,) for k in range(59)])

    def test_great_trees_against_the_plain_words(self):
        chance = random.Random(24)
        for tree in self.great_trees():
            for number in range(6):
                look = some_look(chance, 3)
                plain = [place for place in all_places(tree) if holds_plainly(tree, look, place)]
                self.assert_told(holds(tree, look), plain, look)

    def test_somewhat_beyond_the_bounds(self):
        self.assertEqual(len(finds(chain(300), (("deep", ANY), ("deep", A)))), 298)
        self.assertEqual(len(finds(broad(300), (("down", ANY), ("later", B)))), 298)
        look = ANY
        for number in range(300):
            look = ("not", look)
        self.assert_told(holds(("a", ()), look), [()])
        self.assert_told(holds(("a", ()), ("not", look)), [])


class OwnTest(WalkCase):
    def test_lists_told_are_the_askers_own(self):
        for look in LOOKS.values():
            told = holds(TREE, look)
            kept = list(told)
            told.append((9,))
            told.reverse()
            self.assert_told(holds(TREE, look), kept)
            way = (("deep", look),)
            found = finds(TREE, way)
            kept = list(found)
            found.clear()
            self.assert_told(finds(TREE, way), kept)


if __name__ == "__main__":
    unittest.main()
