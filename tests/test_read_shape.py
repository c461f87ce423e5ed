"""Shapes read from texts."""

import unittest

from helper import NO_NAMES, ReadCase
from pathshape.reader import read_shape

PAIRS = {("0", "0"): (0, 0), ("0", "1"): (0, 1), ("0", "2"): (0, 2), ("0", "many"): (0, None),
         ("1", "1"): (1, 1), ("1", "2"): (1, 2), ("1", "many"): (1, None),
         ("2", "2"): (2, 2), ("2", "many"): (2, None)}

GOOD = ["(start a (rule a b row))", "(start a (rule a b row (a 0 1)))",
        "(start x (rule x a mix (x 0 2) (y 1 many)) (rule y b row))"]


def with_item(low, high):
    return "(start x (rule x a row (x " + low + " " + high + ")))"


class ReadShapeTest(ReadCase):
    def read(self, text):
        return read_shape(text)

    def test_one_rule_without_items(self):
        self.assert_spelled("(start x (rule x a row))", ("x", (("x", "a", "row", ()),)))
        self.assert_spelled("(start x (rule x a mix))", ("x", (("x", "a", "mix", ()),)))

    def test_rules_and_items_in_their_order(self):
        text = "(start book (rule book b row (page 1 many) (note 0 2)) (rule note n mix) (rule page p mix (note 0 1)))"
        value = ("book", (("book", "b", "row", (("page", 1, None), ("note", 0, 2))),
                          ("note", "n", "mix", ()),
                          ("page", "p", "mix", (("note", 0, 1),))))
        self.assert_spelled(text, value)

    def test_each_low_and_high(self):
        for (low, high), (least, most) in PAIRS.items():
            self.assert_spelled(with_item(low, high), ("x", (("x", "a", "row", (("x", least, most),)),)))

    def test_rules_of_one_name_and_of_one_kind(self):
        text = "(start x (rule x a row) (rule x a row) (rule x b mix) (rule y a mix))"
        value = ("x", (("x", "a", "row", ()), ("x", "a", "row", ()), ("x", "b", "mix", ()), ("y", "a", "mix", ())))
        self.assert_read(text, value)

    def test_words_that_ways_use_are_names(self):
        text = "(start down (rule down deep row (later 0 1)) (rule later from mix (item 0 0)))"
        value = ("down", (("down", "deep", "row", (("later", 0, 1),)), ("later", "from", "mix", (("item", 0, 0),))))
        self.assert_read(text, value)

    def test_a_shape_that_is_not_sound(self):
        self.assert_read("(start z (rule x a row))", ("z", (("x", "a", "row", ()),)))
        self.assert_read("(start x (rule x a row (y 1 1)))", ("x", (("x", "a", "row", (("y", 1, 1),)),)))
        self.assert_read("(start x (rule x a mix (x 0 1) (x 0 1)))",
                         ("x", (("x", "a", "mix", (("x", 0, 1), ("x", 0, 1))),)))

    def test_eight_rules_of_three_items(self):
        items = "(aaaaaaaa 0 many) (bbbbbbbb 1 2) (cccccccc 2 2)"
        rule = "(rule aaaaaaaa bbbbbbbb row " + items + ")"
        parts = (("aaaaaaaa", 0, None), ("bbbbbbbb", 1, 2), ("cccccccc", 2, 2))
        value = ("aaaaaaaa", (("aaaaaaaa", "bbbbbbbb", "row", parts),) * 8)
        self.assert_read("(start aaaaaaaa " + rule * 8 + ")", value)

    def test_somewhat_more_rules_and_items(self):
        rule = "(rule x a mix " + "(x 0 1)" * 5 + ")"
        self.assert_read("(start x" + rule * 12 + ")", ("x", (("x", "a", "mix", (("x", 0, 1),) * 5),) * 12))

    def test_a_text_of_six_thousand_signs(self):
        text = "(start x (rule x a row (x 0" + "\n" * 3000
        text = text + " " * (5993 - len(text)) + "many)))"
        self.assertEqual(len(text), 6000)
        self.assert_read(text, ("x", (("x", "a", "row", (("x", 0, None),)),)))


class RefusedShapeTest(ReadCase):
    def read(self, text):
        return read_shape(text)

    def test_what_writes_nothing(self):
        self.assert_nothing_refused_alike()
        self.assert_deep_nothing_refused()

    def test_brackets_and_words_too_few_or_too_many(self):
        for text in GOOD:
            self.assert_frail(text)

    def test_no_rules(self):
        self.assert_all_refused(["(start)", "(start x)", "(start x ())", "(start x y)", "(start)(rule x a row)"])

    def test_no_name_where_a_name_must_stand(self):
        for word in NO_NAMES:
            self.assert_all_refused(["(start " + word + " (rule x a row))", "(start x (rule " + word + " a row))",
                                     "(start x (rule x " + word + " row))",
                                     "(start x (rule x a row (" + word + " 0 1)))",
                                     "(start x (rule x a mix (x 0 1) (" + word + " 0 many)))"])

    def test_low_and_high_that_may_not_stand_together(self):
        words = ["0", "1", "2", "3", "many", "00", "01", "1.0", "+1", "-1", "-0", "10", "x", "any", "None", "()"]
        for low in words:
            for high in words:
                if (low, high) not in PAIRS:
                    self.assert_refused(with_item(low, high))

    def test_items_of_another_form(self):
        for item in ["x", "(x)", "(x 0)", "(x 0 1 2)", "(x 0 1 many)", "(0 1 x)", "(x (0) 1)", "(x 0 (1))", "()",
                     "((x 0 1))", "((x) 0 1)", "(x 0 1 (x 0 1))", "(x many)", "(x x 0 1)", "0", "(rule x a row)",
                     "(start x (rule x a row))"]:
            self.assert_all_refused(["(start x (rule x a row " + item + "))",
                                     "(start x (rule x a mix (x 0 1) " + item + "))",
                                     "(start x (rule x a mix " + item + " (x 0 1)))"])

    def test_no_order(self):
        for order in ["rows", "mixed", "ro", "Row", "MIX", "many", "any", "a", "0", "(row)", "()", "", "rule"]:
            self.assert_all_refused(["(start x (rule x a " + order + "))",
                                     "(start x (rule x a " + order + " (x 0 1)))"])

    def test_rules_of_another_form(self):
        for rule in ["rule", "(rule)", "(rule x)", "(rule x a)", "(rule x row)", "(rule a row (x 0 1))",
                     "(rule (x) a row)", "(rule x (a) row)", "(rule x a (x 0 1) row)", "(rule row x a)",
                     "(x a row)", "(x 0 1)", "((rule x a row))", "(start x (rule x a row))", "(Rule x a row)"]:
            self.assert_all_refused(["(start x " + rule + ")", "(start x (rule x a row) " + rule + ")",
                                     "(start x " + rule + " (rule x a row))"])

    def test_starts_of_another_form(self):
        self.assert_all_refused(["(begin x (rule x a row))", "(x (rule x a row))", "((rule x a row))",
                                 "(start (x) (rule x a row))", "(start (rule x a row))", "(start (rule x a row) x)",
                                 "(rule x a row)", "(x 0 1)", "(Start x (rule x a row))",
                                 "((start) x (rule x a row))", "((start x (rule x a row)))"])

    def test_texts_of_trees_and_ways(self):
        self.assert_all_refused(["(a)", "(a (b))", "(a (b) (c))", "(way (down any))", "(down any)", "(kind a)"])

    def test_nothing_deep_within(self):
        for inner in ["", "any", "x", "(x 0 1)"]:
            self.assert_refused("(start x (rule x a row " + "(x 0 " * 900 + inner + ")" * 900 + "))")


if __name__ == "__main__":
    unittest.main()
