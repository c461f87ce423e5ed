"""Trees read from texts."""

import unittest

from helper import NO_NAMES, ReadCase, tight
from pathshape.reader import read_tree


def chain(length):
    tree = ("a", ())
    for number in range(length - 1):
        tree = ("a", (tree,))
    return tree


class ReadTreeTest(ReadCase):
    def read(self, text):
        return read_tree(text)

    def test_one_place(self):
        self.assert_spelled("(a)", ("a", ()))
        self.assert_spelled("(abcdefgh)", ("abcdefgh", ()))

    def test_parts_in_their_order(self):
        self.assert_spelled("(a (b))", ("a", (("b", ()),)))
        self.assert_spelled("(a (b) (c) (b))", ("a", (("b", ()), ("c", ()), ("b", ()))))

    def test_parts_of_parts(self):
        text = "(book (part (page) (page)) (index) (part (page (line))))"
        page = ("page", ())
        value = ("book", (("part", (page, page)), ("index", ()), ("part", (("page", (("line", ()),)),))))
        self.assert_spelled(text, value)

    def test_words_that_other_texts_use_are_kinds_too(self):
        for kind in ["down", "deep", "later", "from", "tree", "item", "look", "step", "shape"]:
            self.assert_read("(" + kind + " (" + kind + "))", (kind, ((kind, ()),)))

    def test_words_and_brackets_with_uneven_gaps(self):
        self.assert_read("\n( a\n(b)(c )\n\n ( d(e)) )  \n", ("a", (("b", ()), ("c", ()), ("d", (("e", ()),)))))

    def test_a_chain_of_a_hundred_places(self):
        self.assert_read("(a" * 100 + ")" * 100, chain(100))
        self.assert_read("(a " * 120 + ")" * 120, chain(120))

    def test_a_hundred_places_beside_each_other(self):
        self.assert_read("(a " + "(b)" * 99 + ")", ("a", (("b", ()),) * 99))

    def test_a_text_of_six_thousand_signs(self):
        text = "(abcdefgh\n" + "(b)" * 99
        text = text + " " * (5999 - len(text)) + ")"
        self.assertEqual(len(text), 6000)
        self.assert_read(text, ("abcdefgh", (("b", ()),) * 99))


class RefusedTreeTest(ReadCase):
    def read(self, text):
        return read_tree(text)

    def test_what_writes_nothing(self):
        self.assert_nothing_refused_alike()
        self.assert_deep_nothing_refused()

    def test_brackets_and_words_too_few_or_too_many(self):
        for text in ["(a)", "(a (b))", "(a (b) (c (d) (e)))"]:
            self.assert_frail(text)

    def test_no_name_for_a_kind(self):
        for word in NO_NAMES:
            self.assert_all_refused(["(" + word + ")", "(" + word + " (a))", "(a (" + word + "))",
                                     "(a (b) (" + word + " (c)))"])

    def test_words_where_parts_must_stand(self):
        self.assert_all_refused(["(a b)", "(a b c)", "(a (b) c)", "(a b (c))", "(a (b c))", "(a any)", "(a 0)"])

    def test_parts_ahead_of_the_kind(self):
        self.assert_all_refused(["((a))", "((a) b)", "((a) (b))", "(a ((b)))", "(a ())", "(a () (b))"])

    def test_nothing_deep_within(self):
        for inner in ["any", "(any)", "()", "a", "(a b)", "(A)"]:
            self.assert_refused("(a " * 1500 + inner + ")" * 1500)

    def test_texts_of_shapes_and_ways(self):
        self.assert_all_refused(["(start a (rule a b row))", "(rule a b row)", "(a 0 1)", "(way (down any))",
                                 "(down any)", "(kind a)", "(not any)", "(both any any)"])

    def test_any_words_shut_in_brackets_wrongly(self):
        self.assert_all_refused([tight(["(", "a", ")", "(", "b", ")"]), "(a) (b) (c)", "a (b)", "(a) b", "(a)b"])


if __name__ == "__main__":
    unittest.main()
