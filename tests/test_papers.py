"""Papers that are shut, and that aren't."""

import copy
import random
import unittest

from helper import ANY, PlainCase, reordered, rich_shape, some_look, some_shape
from pathshape.papers import shut
from pathshape.reader import read_shape
from pathshape.sorts import sorts_of
from pathshape.sums import made_by
from pathshape.table import table_of

A = ("kind", "a")
MARK = ("mark",)


def shut_plainly(shape, rows, paper, marks):
    given = [one for rule in shape[1] for one in made_by(rows, rule, paper, marks).items()]
    return all(sort in paper and paper[sort] <= size for sort, size in given)


def some_rows(chance, steps):
    while True:
        rows, look = table_of(some_look(chance, 4, (ANY, A, MARK)))
        if len(rows) <= steps:
            return reordered(rows, look, chance.sample(range(len(rows)), len(rows)))[0]


class PapersTest(PlainCase):
    def assert_shut(self, truth, shape, rows, paper, *marks):
        kept = copy.deepcopy(paper)
        self.assertIs(shut(shape, rows, paper, *marks), truth, (shape, rows, paper, marks))
        self.assertEqual((paper, list(paper)), (kept, list(kept)))

    def some_cases(self, seed, count):
        chance = random.Random(seed)
        for number in range(count):
            yield chance, some_shape(chance) if number % 3 == 0 else rich_shape(chance), some_rows(chance, 4)

    def test_the_sorts_of_a_shape(self):
        for chance, shape, rows in self.some_cases(71, 100):
            self.assert_shut(True, shape, rows, sorts_of(shape, rows))
            self.assert_shut(True, shape, rows, sorts_of(shape, rows), True)
            self.assert_shut(True, shape, rows, sorts_of(shape, rows, False), False)
            self.assertIs(shut(shape, rows, sorts_of(shape, rows, False), marks=False), True)

    def test_a_sort_less(self):
        for chance, shape, rows in self.some_cases(72, 40):
            for marks in [True, False]:
                told = sorts_of(shape, rows, marks)
                for sort in chance.sample(sorted(told), min(len(told), 6)):
                    paper = {other: size for other, size in told.items() if other != sort}
                    self.assert_shut(False, shape, rows, paper, marks)

    def test_a_size_more(self):
        for chance, shape, rows in self.some_cases(73, 40):
            for marks in [True, False]:
                told = sorts_of(shape, rows, marks)
                for sort in chance.sample(sorted(told), min(len(told), 6)):
                    self.assert_shut(False, shape, rows, {**told, sort: told[sort] + 1}, marks)
                    self.assert_shut(False, shape, rows, {**told, sort: 10 ** 30 - 1}, marks)

    def test_a_size_less(self):
        shut_ones = 0
        for chance, shape, rows in self.some_cases(74, 60):
            for marks in [True, False]:
                told = sorts_of(shape, rows, marks)
                for sort in chance.sample(sorted(told), min(len(told), 6)):
                    if told[sort] > 1:
                        paper = {**told, sort: told[sort] - 1}
                        truth = shut_plainly(shape, rows, paper, marks)
                        shut_ones += truth
                        self.assert_shut(truth, shape, rows, paper, marks)
        self.assertGreater(shut_ones, 10)

    def test_a_size_less_by_hand(self):
        shape = read_shape("(start x (rule x a row (y 1 1)) (rule y a row (z 1 1)) (rule z a row))")
        told = sorts_of(shape, (), False)
        self.assertEqual(told, {("x", "a", 0, 0): 3, ("y", "a", 0, 0): 2, ("z", "a", 0, 0): 1})
        # No rule takes x; of y more is asked, since what has a y as its part gets smaller with it.
        self.assert_shut(True, shape, (), {**told, ("x", "a", 0, 0): 1}, False)
        self.assert_shut(False, shape, (), {**told, ("y", "a", 0, 0): 1}, False)
        self.assert_shut(True, shape, (), {**told, ("y", "a", 0, 0): 1, ("x", "a", 0, 0): 2}, False)
        self.assert_shut(True, shape, (), {**told, ("y", "a", 0, 0): 1, ("x", "a", 0, 0): 1}, False)

    def test_a_sort_more(self):
        shut_ones, others = 0, 0
        for chance, shape, rows in self.some_cases(75, 60):
            told = sorts_of(shape, rows)
            for number in range(4):
                sort = (chance.choice("uvwxz"), chance.choice("abc"), chance.choice([0, 1, 2]),
                        chance.randrange(1 << len(rows)))
                if sort not in told:
                    paper = {**told, sort: chance.choice([1, 2, 9, 10 ** 29])}
                    truth = shut_plainly(shape, rows, paper, True)
                    shut_ones += truth
                    others += not truth
                    self.assert_shut(truth, shape, rows, paper)
        self.assertGreater(min(shut_ones, others), 10)

    def test_a_sort_more_by_hand(self):
        shape = read_shape("(start x (rule x a row (y 0 1)) (rule y b row (y 1 1)))")
        rows = (("down", ANY, None),)
        told = {("x", "a", 0, 0): 1}
        self.assert_shut(True, shape, rows, told, False)
        self.assert_shut(False, shape, rows, {**told, ("y", "b", 0, 1): 9}, False)
        self.assert_shut(False, shape, rows, {**told, ("y", "b", 0, 1): 9, ("x", "a", 0, 1): 11}, False)
        self.assert_shut(True, shape, rows, {**told, ("y", "b", 0, 1): 9, ("x", "a", 0, 1): 10}, False)
        self.assert_shut(False, shape, rows, {**told, ("y", "b", 0, 0): 9, ("x", "a", 0, 1): 10}, False)
        self.assert_shut(True, shape, rows, {**told, ("y", "b", 0, 0): 9, ("x", "a", 0, 1): 10, ("y", "b", 0, 1): 9},
                         False)

    def test_names_and_kinds_that_the_shape_lacks(self):
        shape = read_shape("(start x (rule x a row (x 0 many)))")
        rows = (("down", A, None),)
        told = sorts_of(shape, rows)
        for sort in [("y", "a", 0, 0), ("a", "x", 2, 1), ("z", "z", 1, 1)]:
            self.assert_shut(True, shape, rows, {**told, sort: 1})
        self.assert_shut(True, shape, rows, {**told, ("x", "b", 0, 1): 1})
        self.assert_shut(False, shape, rows, {("y", "a", 0, 0): 1, ("y", "a", 1, 0): 1})

    def test_the_empty_paper(self):
        for text, truth in [("(start x (rule x a row (x 1 1)))", True), ("(start x (rule x a row))", False),
                            ("(start x (rule x a mix (x 0 many)))", False),
                            ("(start x (rule x a row (y 2 2)) (rule y b row (x 1 many)))", True),
                            ("(start x (rule x a row (x 1 1)) (rule y b row))", False)]:
            for marks in [True, False]:
                self.assert_shut(truth, read_shape(text), (), {}, marks)
                self.assert_shut(truth, read_shape(text), (("deep", A, None),), {}, marks)

    def test_with_marks_and_without(self):
        shape = read_shape("(start x (rule x a row (x 0 1)))")
        rows = (("down", MARK, None),)
        plain = sorts_of(shape, rows, False)
        self.assertEqual(plain, {("x", "a", 0, 0): 1})
        self.assert_shut(True, shape, rows, plain, False)
        self.assert_shut(False, shape, rows, plain, True)
        self.assert_shut(False, shape, rows, plain)
        self.assert_shut(False, shape, rows, {**plain, ("x", "a", 1, 0): 1})
        self.assert_shut(False, shape, rows, {**plain, ("x", "a", 1, 0): 1, ("x", "a", 2, 1): 2})
        self.assert_shut(True, shape, rows, {**plain, ("x", "a", 1, 0): 1, ("x", "a", 2, 1): 2, ("x", "a", 2, 0): 3})

    def test_a_shut_paper_has_all_sorts_with_sizes_no_greater(self):
        for chance, shape, rows in self.some_cases(76, 40):
            told = sorts_of(shape, rows)
            paper = {}
            for sort in told:
                if chance.random() < 0.9:
                    paper[sort] = max(1, told[sort] - chance.choice([0, 0, 0, 1]))
            if shut(shape, rows, paper):
                self.assertTrue(all(sort in paper and paper[sort] <= size for sort, size in told.items()))

    def test_sixty_sorts_with_great_sizes(self):
        chance = random.Random(77)
        rows = some_rows(chance, 4) + (("down", A, None), ("deep", MARK, None))
        shape = read_shape("(start x (rule x a mix (x 2 many) (y 2 many) (z 2 2)) (rule y b row (x 0 many))"
                           "(rule z a row (z 2 2) (x 1 many)) (rule x b row) (rule z b mix (y 2 2)))")
        for number in range(5):
            paper = {}
            while len(paper) < 60:
                paper[(chance.choice("xyz"), chance.choice("ab"), chance.choice([0, 1, 2]),
                       chance.randrange(1 << len(rows)))] = chance.randrange(1, 10 ** 30)
            self.assert_shut(shut_plainly(shape, rows, paper, True), shape, rows, paper)


if __name__ == "__main__":
    unittest.main()
