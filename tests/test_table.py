"""The table of a look."""

import random
import unittest

from helper import ANY, LOOKS, NESTS, PlainCase, put_back, some_look
from pathshape.sound import steps_in
from pathshape.table import merged_table_of, table_of

A = ("kind", "a")
B = ("kind", "b")
MARK = ("mark",)


def come_to(rows, look):
    """The numbers of the rows that the look comes to by from and rest, each as often as it does so."""
    if look[0] == "from":
        numbers = []
        number = look[1]
        while number is not None:
            numbers = numbers + [number] + come_to(rows, rows[number][1])
            number = rows[number][2]
        return numbers
    if look[0] == "kind":
        return []
    return [number for part in look[1:] for number in come_to(rows, part)]


class TableTest(PlainCase):
    def assert_table(self, look):
        told = table_of(look)
        self.assertIs(type(told), tuple)
        self.assertEqual(len(told), 2)
        rows, changed = told
        self.assert_plain(told)
        self.assertIs(type(rows), tuple)
        self.assertEqual(len(rows), steps_in(look))
        for row in rows:
            self.assertEqual(len(row), 3)
            self.assertIn(row[0], ["down", "deep", "later"])
            self.assertNotIn("'way'", repr(row))
        self.assertNotIn("'way'", repr(changed))
        self.assertEqual(sorted(come_to(rows, changed)), list(range(len(rows))), look)
        self.assertEqual(put_back(rows, changed), look)
        return told

    def test_looks_without_ways(self):
        for look in [ANY, A, MARK, ("not", ANY), ("both", A, MARK), ("either", ("not", B), ("both", ANY, ("not", A)))]:
            self.assertEqual(self.assert_table(look), ((), look))

    def test_kinds_called_like_other_words(self):
        for kind in ["from", "down", "deep", "later"]:
            self.assertEqual(self.assert_table(("kind", kind)), ((), ("kind", kind)))
            self.assertEqual(self.assert_table(("way", (("down", ("kind", kind)),))),
                             ((("down", ("kind", kind), None),), ("from", 0)))

    def test_a_way_of_one_step(self):
        for go in ["down", "deep", "later"]:
            for look in [ANY, A, MARK, ("not", ("both", A, MARK))]:
                self.assertEqual(self.assert_table(("way", ((go, look),))), (((go, look, None),), ("from", 0)))

    def test_a_way_of_several_steps(self):
        rows, look = self.assert_table(("way", (("down", A), ("deep", ANY), ("later", MARK))))
        first = look[1]
        second = rows[first][2]
        third = rows[second][2]
        self.assertEqual(sorted([first, second, third]), [0, 1, 2])
        self.assertEqual(rows[first], ("down", A, second))
        self.assertEqual(rows[second], ("deep", ANY, third))
        self.assertEqual(rows[third], ("later", MARK, None))

    def test_ways_within_ways(self):
        rows, look = self.assert_table(("way", (("down", ("not", ("way", (("later", A),)))), ("deep", B))))
        self.assertEqual(look[0], "from")
        go, inner, rest = rows[look[1]]
        self.assertEqual((go, inner[0], inner[1][0]), ("down", "not", "from"))
        self.assertEqual(rows[inner[1][1]], ("later", A, None))
        self.assertEqual(rows[rest], ("deep", B, None))
        self.assertEqual(sorted([look[1], inner[1][1], rest]), [0, 1, 2])

    def test_ways_in_each_sort_of_look(self):
        way = ("way", (("deep", A),))
        self.assertEqual(self.assert_table(("not", way)), ((("deep", A, None),), ("not", ("from", 0))))
        for sort in ["both", "either"]:
            self.assertEqual(self.assert_table((sort, way, MARK)),
                             ((("deep", A, None),), (sort, ("from", 0), MARK)))
            self.assertEqual(self.assert_table((sort, B, way)), ((("deep", A, None),), (sort, B, ("from", 0))))
            rows, look = self.assert_table((sort, way, ("way", (("later", B),))))
            self.assertEqual(rows[look[1][1]], ("deep", A, None))
            self.assertEqual(rows[look[2][1]], ("later", B, None))

    def test_the_same_way_twice(self):
        way = ("way", (("deep", A), ("down", B)))
        rows, look = self.assert_table(("both", way, way))
        self.assertEqual(len(rows), 4)
        self.assertNotEqual(look[1], look[2])
        self.assertEqual(len(self.assert_table(("way", (("down", way), ("down", way))))[0]), 6)
        self.assertEqual(len(self.assert_table(("either", ("both", way, way), ("not", way)))[0]), 6)

    def test_every_two_nests(self):
        for look in list(LOOKS.values()) + [MARK, ("way", (("down", MARK),))]:
            for ahead, behind, about in NESTS:
                for outer, end, whole in NESTS:
                    self.assert_table(whole(about(look)))

    def test_many_looks(self):
        chance = random.Random(31)
        for number in range(1500):
            self.assert_table(some_look(chance, number % 6 + 1, (ANY, A, B, MARK)))

    def test_twelve_deep_forty_looks_and_beyond(self):
        for depth in [11, 12, 30, 60]:
            for ahead, behind, about in NESTS:
                look = MARK
                for number in range(depth):
                    look = about(look)
                self.assert_table(look)
        self.assert_table(("way", (("down", A),) * 39))
        self.assertEqual(len(self.assert_table(("way", (("down", A),) * 200))[0]), 200)
        look = ("way", (("down", A),))
        for number in range(3000):
            look = ("not", look)
        self.assertEqual(table_of(look)[0], (("down", A, None),))

    def test_the_same_answer_again(self):
        for look in LOOKS.values():
            self.assertEqual(table_of(look), table_of(look))


class MergedTest(PlainCase):
    def assert_merged(self, look, count):
        rows, changed = merged_table_of(look)
        self.assert_plain((rows, changed))
        self.assertEqual(len(rows), count, look)
        self.assertEqual(len(set(rows)), count)
        self.assertEqual(put_back(rows, changed), look)

    def test_the_same_steps_have_one_row(self):
        way = ("way", (("deep", A), ("down", B)))
        self.assert_merged(way, 2)
        self.assert_merged(("both", way, way), 2)
        self.assert_merged(("way", (("down", way), ("down", way))), 4)
        self.assert_merged(("both", ("way", (("down", A), ("down", B))), ("way", (("deep", A), ("down", B)))), 3)
        self.assert_merged(("both", ("way", (("down", A), ("down", B))), ("way", (("down", A), ("deep", B)))), 4)
        self.assert_merged(("either", ("way", (("down", A),)), ("way", (("down", MARK),))), 2)

    def test_many_looks(self):
        chance = random.Random(32)
        for number in range(500):
            look = some_look(chance, number % 6 + 1, (ANY, A, B, MARK))
            rows, changed = merged_table_of(look)
            self.assert_merged(look, len(rows))
            self.assertLessEqual(len(rows), len(table_of(look)[0]))


if __name__ == "__main__":
    unittest.main()
