"""Ways, and the looks in them, read from texts."""

import unittest

from helper import ANY, LOOKS, NESTS, NO_NAMES, ReadCase
from pathshape.reader import read_way


def with_look(look):
    return "(way (down " + look + "))"


class ReadWayTest(ReadCase):
    def read(self, text):
        return read_way(text)

    def assert_look(self, text, look):
        self.assert_read(with_look(text), (("down", look),))

    def test_each_go(self):
        for go in ["down", "deep", "later"]:
            self.assert_spelled("(way (" + go + " any))", ((go, ANY),))

    def test_steps_in_their_order(self):
        self.assert_spelled("(way (down any) (deep (kind a)) (later any) (down (kind b)))",
                            (("down", ANY), ("deep", ("kind", "a")), ("later", ANY), ("down", ("kind", "b"))))

    def test_each_sort_of_look(self):
        for text, look in LOOKS.items():
            self.assert_spelled(with_look(text), (("down", look),))

    def test_looks_in_looks(self):
        for text, look in LOOKS.items():
            for ahead, behind, about in NESTS:
                for outer, end, whole in NESTS:
                    self.assert_look(outer + ahead + text + behind + end, whole(about(look)))

    def test_a_look_with_each_sort_in_it(self):
        text = """(way (deep (both (not (kind a))
                              (either any (way (later (kind b)) (down (not any))))))
                       (later any))"""
        inner = ("way", (("later", ("kind", "b")), ("down", ("not", ANY))))
        look = ("both", ("not", ("kind", "a")), ("either", ANY, inner))
        self.assert_spelled(text, (("deep", look), ("later", ANY)))

    def test_words_that_steps_use_are_kinds_too(self):
        for kind in ["down", "deep", "later", "from", "look", "step", "abcdefgh"]:
            self.assert_look("(kind " + kind + ")", ("kind", kind))

    def test_looks_that_nest_twelve_deep(self):
        for ahead, behind, about in NESTS:
            look = ("kind", "a")
            for number in range(11):
                look = about(look)
            self.assert_look(ahead * 11 + "(kind a)" + behind * 11, look)

    def test_looks_that_nest_somewhat_deeper(self):
        look = ANY
        for number in range(40):
            look = ("not", look)
        self.assert_look("(not " * 40 + "any" + ")" * 40, look)

    def test_a_look_of_forty_looks(self):
        text, look = "any", ANY
        for number in range(19):
            text, look = "(both any " + text + ")", ("both", ANY, look)
        self.assert_look("(not " + text + ")", ("not", look))

    def test_many_steps(self):
        self.assert_read("(way" + "(down any)" * 40 + ")", (("down", ANY),) * 40)

    def test_a_text_of_six_thousand_signs(self):
        text = "(way" + " " * 3000 + "(down\n"
        text = text + "\n" * (5995 - len(text)) + "any))"
        self.assertEqual(len(text), 6000)
        self.assert_read(text, (("down", ANY),))


class RefusedWayTest(ReadCase):
    def read(self, text):
        return read_way(text)

    def assert_no_look(self, text):
        texts = [with_look(text), "(way (deep any) (later " + text + "))"]
        texts = texts + [with_look(ahead + text + behind) for ahead, behind, about in NESTS]
        self.assert_all_refused(texts)

    def test_what_writes_nothing(self):
        self.assert_nothing_refused_alike()
        self.assert_deep_nothing_refused()

    def test_brackets_and_words_too_few_or_too_many(self):
        for text in LOOKS:
            self.assert_frail(with_look(text))
            self.assert_frail("(way (later any) (deep " + text + ") (down (kind a)))")

    def test_no_steps(self):
        self.assert_all_refused(["(way)", "(way ())", "way", "(way any)", "(way down)", "(way down any)"])
        self.assert_no_look("(way)")
        self.assert_no_look("(way any)")

    def test_no_go(self):
        for go in ["up", "downs", "dee", "Down", "LATER", "kind", "not", "any", "way", "mark", "a", "0", "(down)",
                   "()", "from", "step", "look"]:
            self.assert_all_refused(["(way (" + go + " any))", "(way (down any) (" + go + " any))",
                                     "(way (" + go + " (kind a)))", "(way (down (way (" + go + " any))))"])

    def test_steps_of_another_form(self):
        for step in ["(down)", "(down any any)", "(any down)", "(down (kind a) (kind b))", "((down any))", "down",
                     "(down down)", "(down (down any))", "(kind a)", "(not any)", "(way (down any))", "any", "()",
                     "(both any any)", "(down (later any))"]:
            self.assert_all_refused(["(way " + step + ")", "(way (down any) " + step + ")",
                                     "(way " + step + " (down any))"])

    def test_looks_with_too_few_or_too_many_parts(self):
        for look in ["(kind)", "(kind a b)", "(kind a any)", "(not)", "(not any any)", "(not any (kind a))",
                     "(both)", "(both any)", "(both any any any)", "(either)", "(either any)",
                     "(either any any any)", "(both (kind a))", "(either (kind a))", "(way)"]:
            self.assert_no_look(look)

    def test_no_name_for_a_kind(self):
        for word in NO_NAMES:
            self.assert_no_look("(kind " + word + ")")

    def test_any_in_brackets(self):
        for look in ["(any)", "((any))", "( any )", "(any any)"]:
            self.assert_no_look(look)

    def test_mark_in_any_place(self):
        for look in ["mark", "(mark)", "(kind mark)", "(mark a)", "(mark any)", "(way mark)", "(way (mark any))"]:
            self.assert_no_look(look)
        self.assert_all_refused(["(mark (down any))", "(way mark)", "(way (mark any))", "(way (mark))"])

    def test_what_is_no_look(self):
        for look in ["a", "kind", "not", "way", "Any", "anys", "an", "0", "()", "(a)", "(down any)", "(from a)",
                     "(from 0)", "((kind a))", "(kind (a))", "(kind (kind a))", "(not a)", "(not (down any))",
                     "(nor any any)", "(and any any)", "(neither any any)", "(any (kind a))", "(both any a)",
                     "(either a any)", "(both (down any) any)", "(either any (down any))", "((not) any)",
                     "(Not any)", "(kind any)", "((both) any any)", "((kind a) (kind b))", "(a (b))"]:
            self.assert_no_look(look)

    def test_looks_alone(self):
        self.assert_all_refused(["any", "(kind a)", "(not any)", "(both any any)", "(either any any)",
                                 "(down any)", "(down any) (later any)", "((down any))"])
        self.assert_all_refused(["((way (down any)))", "(way (way (down any)))", "(ways (down any))",
                                 "(Way (down any))", "((way) (down any))", "(not (way (down any)))"])

    def test_texts_of_trees_and_shapes(self):
        self.assert_all_refused(["(a)", "(a (b))", "(down (later))", "(start a (rule a b row))", "(a 0 1)",
                                 "(rule a b mix)"])

    def test_nothing_deep_within(self):
        for inner in ["mark", "a", "(any)", "()", "(down any)", "(kind any)"]:
            self.assert_refused(with_look("(not " * 950 + inner + ")" * 950))
            self.assert_refused(with_look("(way (down " * 400 + inner + "))" * 400))


if __name__ == "__main__":
    unittest.main()
