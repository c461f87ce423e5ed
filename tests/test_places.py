"""The places of a tree, the trees there, and the places gone to."""

import unittest

from helper import PlainCase, all_trees, broad, chain, mixed_tree
from pathshape.places import all_places, gone_to, tree_at

TREE = ("a", (("b", (("c", ()), ("d", (("e", ()),)))), ("f", ()), ("g", (("h", ()),))))

PLACES = [(), (0,), (0, 0), (0, 1), (0, 1, 0), (1,), (2,), (2, 0)]

GOES = ["down", "deep", "later"]


def places_plainly(tree):
    return [()] + [(k,) + place for k, part in enumerate(tree[1]) for place in places_plainly(part)]


def is_gone_to(go, place, other):
    if go == "down":
        return len(other) == len(place) + 1 and other[:-1] == place
    if go == "deep":
        return len(other) > len(place) and other[:len(place)] == place
    return len(place) > 0 and len(other) == len(place) and other[:-1] == place[:-1] and other[-1] > place[-1]


def many_trees():
    trees = [tree for size in range(1, 7) for tree in all_trees(size, ["a"])]
    return trees + [chain(30), broad(30), TREE] + [mixed_tree(40, ["a", "b"], seed) for seed in range(5)]


class PlacesTest(PlainCase):
    def assert_places(self, told, places):
        self.assertEqual(told, places)
        self.assertIs(type(told), list)
        for place in told:
            self.assert_plain(place)

    def test_one_place(self):
        self.assert_places(all_places(("a", ())), [()])
        self.assertEqual(tree_at(("a", ()), ()), ("a", ()))
        for go in GOES:
            self.assert_places(gone_to(("a", ()), go, ()), [])

    def test_places_in_their_order(self):
        self.assert_places(all_places(TREE), PLACES)
        self.assertEqual(sorted(PLACES), PLACES)

    def test_places_with_more_than_ten_brothers(self):
        self.assert_places(all_places(broad(100)), [()] + [(k,) for k in range(99)])

    def test_a_chain(self):
        self.assert_places(all_places(chain(100)), [(0,) * length for length in range(100)])

    def test_places_against_the_plain_words(self):
        for tree in many_trees() + [mixed_tree(100, ["a", "b"], 77)]:
            places = all_places(tree)
            self.assert_places(places, sorted(places_plainly(tree)))
            self.assertEqual(len(places), len(set(places)))

    def test_trees_at_places(self):
        kinds = [tree_at(TREE, place)[0] for place in PLACES]
        self.assertEqual(kinds, ["a", "b", "c", "d", "e", "f", "g", "h"])
        self.assertEqual(tree_at(TREE, ()), TREE)
        self.assertEqual(tree_at(TREE, (0, 1)), ("d", (("e", ()),)))
        self.assertEqual(tree_at(TREE, (2,)), ("g", (("h", ()),)))
        self.assertEqual(tree_at(chain(100), (0,) * 60), chain(40))
        self.assertEqual(tree_at(broad(100), (98,)), ("b", ()))

    def test_gone_down(self):
        self.assert_places(gone_to(TREE, "down", ()), [(0,), (1,), (2,)])
        self.assert_places(gone_to(TREE, "down", (0,)), [(0, 0), (0, 1)])
        self.assert_places(gone_to(TREE, "down", (0, 1)), [(0, 1, 0)])
        for leaf in [(0, 0), (0, 1, 0), (1,), (2, 0)]:
            self.assert_places(gone_to(TREE, "down", leaf), [])

    def test_gone_deep(self):
        self.assert_places(gone_to(TREE, "deep", ()), PLACES[1:])
        self.assert_places(gone_to(TREE, "deep", (0,)), [(0, 0), (0, 1), (0, 1, 0)])
        self.assert_places(gone_to(TREE, "deep", (2,)), [(2, 0)])
        for leaf in [(0, 0), (0, 1, 0), (1,), (2, 0)]:
            self.assert_places(gone_to(TREE, "deep", leaf), [])

    def test_gone_later(self):
        self.assert_places(gone_to(TREE, "later", ()), [])
        self.assert_places(gone_to(TREE, "later", (0,)), [(1,), (2,)])
        self.assert_places(gone_to(TREE, "later", (1,)), [(2,)])
        self.assert_places(gone_to(TREE, "later", (2,)), [])
        self.assert_places(gone_to(TREE, "later", (0, 0)), [(0, 1)])
        for last in [(0, 1), (0, 1, 0), (2, 0)]:
            self.assert_places(gone_to(TREE, "later", last), [])

    def test_the_top_has_no_brothers(self):
        for tree in [TREE, chain(100), broad(100)]:
            self.assert_places(gone_to(tree, "later", ()), [])

    def test_gone_in_chains_and_rows_of_brothers(self):
        self.assert_places(gone_to(chain(100), "deep", (0,)), [(0,) * length for length in range(2, 100)])
        self.assert_places(gone_to(chain(100), "down", (0,) * 98), [(0,) * 99])
        self.assert_places(gone_to(chain(100), "later", (0,) * 50), [])
        self.assert_places(gone_to(broad(100), "later", (8,)), [(k,) for k in range(9, 99)])
        self.assert_places(gone_to(broad(100), "down", ()), [(k,) for k in range(99)])
        self.assert_places(gone_to(broad(100), "deep", ()), [(k,) for k in range(99)])

    def test_gone_to_against_the_plain_words(self):
        for tree in many_trees():
            places = sorted(places_plainly(tree))
            for place in places:
                for go in GOES:
                    self.assert_places(gone_to(tree, go, place),
                                       [other for other in places if is_gone_to(go, place, other)])

    def test_trees_somewhat_beyond_the_bounds(self):
        self.assertEqual(len(all_places(chain(400))), 400)
        self.assertEqual(len(all_places(broad(2000))), 2000)
        self.assertEqual(len(gone_to(chain(1500), "deep", (0,))), 1498)
        self.assertEqual(tree_at(chain(1500), (0,) * 1499), ("a", ()))

    def test_lists_told_are_the_askers_own(self):
        places = all_places(TREE)
        places.clear()
        self.assert_places(all_places(TREE), PLACES)
        for go in GOES:
            for place in PLACES:
                told = gone_to(TREE, go, place)
                kept = list(told)
                told.append((9,))
                told.reverse()
                self.assert_places(gone_to(TREE, go, place), kept)


if __name__ == "__main__":
    unittest.main()
