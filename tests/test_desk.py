"""The desk: rows that it is told, its answers, and what it refuses."""

import random
import unittest

from helper import NO_NAMES, SIZED, PlainCase, rich_shape, some_way, trees_of
from pathshape.desk import Desk
from pathshape.errors import NoName, NoRow, NoRule, NoText, PathError, TooGreat, Twice
from pathshape.marking import has
from pathshape.questions import always, apart, can, finds_all, kinds_found, same
from pathshape.reader import read_tree
from pathshape.shorter import shorter
from pathshape.sound import steps_in
from pathshape.walk import finds
from pathshape.writer import show_shape, show_tree, show_way

BOOK = "(start b (rule b book row (h 0 1) (p 1 many)) (rule h head row) (rule p page mix (n 0 2)) (rule n note row))"

# How many names follow each word.
ASKED = {"has": 2, "found": 2, "can": 2, "always": 2, "all": 3, "apart": 3, "same": 3, "kinds": 2, "shorter": 2}


def book_desk():
    """A desk that keeps the shape s, the ways w, v and n, and the trees t and u."""
    desk = Desk()
    for row in ["shape s " + BOOK, "way w (way (down any))", "way v (way (down (kind page)))",
                "way n (way (later any))", "tree t (book (head) (page (note) (note)))", "tree u (page)"]:
        desk.say(row)
    return desk


class DeskCase(PlainCase):
    def assert_said(self, desk, row, answer):
        told = desk.say(row)
        self.assertEqual(told, answer, row)
        self.assertIs(type(told), str)

    def assert_refused(self, refusal, row, desk=None):
        """Refused with this class; and the desk answers as before."""
        desk = desk or book_desk()
        before = self.answers(desk)
        error = self.assert_refusal(refusal, desk.say, row)
        self.assertEqual(self.answers(desk), before)
        return error

    def answers(self, desk):
        """What the desk answers, row by row, or the class by which it refuses."""
        answers = []
        for row in ["has s t", "has s u", "found w t", "found v t", "found n t", "can s w", "all s v w", "same s w v",
                    "kinds s w", "shorter s v", "has x t", "found x t", "found w x", "can x x"]:
            try:
                answers.append(desk.say(row))
            except PathError as error:
                answers.append(type(error))
        return answers


class AnswersTest(DeskCase):
    def test_keeping(self):
        desk = Desk()
        self.assert_said(desk, "shape s " + BOOK, "ok")
        self.assert_said(desk, "way w (way (down any))", "ok")
        self.assert_said(desk, "tree t (book (page))", "ok")

    def test_has(self):
        desk = book_desk()
        self.assert_said(desk, "has s t", "yes")
        self.assert_said(desk, "has s u", "no")

    def test_found(self):
        desk = book_desk()
        self.assert_said(desk, "found w t", "2 0 1")
        self.assert_said(desk, "found v t", "1 1")
        self.assert_said(desk, "found n t", "0")
        self.assert_said(desk, "found w u", "0")
        desk.say("way d (way (deep any))")
        self.assert_said(desk, "found d t", "4 0 1 1.0 1.1")
        desk.say("tree t (a (b (c (d) (e))) (b)" + " (b)" * 9 + " (b (a)))")
        self.assert_said(desk, "found d t", "16 0 0.0 0.0.0 0.0.1 1 2 3 4 5 6 7 8 9 10 11 11.0")

    def test_can(self):
        desk = book_desk()
        self.assert_said(desk, "can s w", "finds (book (page))")
        self.assert_said(desk, "can s n", "never")

    def test_always(self):
        desk = book_desk()
        self.assert_said(desk, "always s w", "always")
        self.assert_said(desk, "always s n", "not (book (page))")

    def test_all(self):
        desk = book_desk()
        self.assert_said(desk, "all s w v", "all")
        self.assert_said(desk, "all s v w", "but (book (head) (page))")
        self.assert_said(desk, "all s v v", "all")

    def test_apart(self):
        desk = book_desk()
        self.assert_said(desk, "apart s w v", "both (book (page))")
        self.assert_said(desk, "apart s w n", "apart")

    def test_same(self):
        desk = book_desk()
        self.assert_said(desk, "same s w w", "same")
        self.assert_said(desk, "same s w v", "but (book (head) (page))")
        self.assert_said(desk, "same s v w", "but (book (head) (page))")

    def test_kinds(self):
        desk = book_desk()
        self.assert_said(desk, "kinds s w", "head page")
        self.assert_said(desk, "kinds s v", "page")
        self.assert_said(desk, "kinds s n", "")

    def test_shorter(self):
        desk = book_desk()
        self.assert_said(desk, "shorter s v", "(way (down (kind page)))")
        desk.say("way x (way (down (either (kind page)\n(kind head))) (down   (kind note)))")
        self.assert_said(desk, "shorter s x", "(way (down any) (down any))")

    def test_great(self):
        desk = Desk()
        for size, shape in SIZED.items():
            desk.say("shape s" + "xy"[size - 60] + " " + show_shape(shape))
        desk.say("way w (way (down (kind l)) (later (kind l)))")
        desk.say("way v (way (down (kind l)))")
        desk.say("way n (way (later any))")
        desk.say("way f (way (down (both (kind m) (not (way (later (kind l)) (later (kind l)))))))")
        for row, word in [("can S w", "finds"), ("always S f", "not"), ("all S n w", "but"), ("apart S w v", "both"),
                          ("same S w n", "but")]:
            self.assertTrue(desk.say(row.replace("S", "sx")).startswith(word + " (k (m "), row)
            self.assert_said(desk, row.replace("S", "sy"), "great 61")
        self.assert_said(desk, "kinds sy w", "l")
        self.assert_said(desk, "shorter sy w", "(way (down (kind l)) (later (kind l)))")

    def test_the_very_answers_of_the_functions(self):
        chance = random.Random(101)
        for number in range(40):
            shape = rich_shape(chance)
            ways = []
            while len(ways) < 2:
                way = some_way(chance, 3)
                if steps_in(("way", way)) <= 3:
                    ways.append(way)
            desk = Desk()
            desk.say("shape s " + show_shape(shape))
            desk.say("way w " + show_way(ways[0]))
            desk.say("way v " + show_way(ways[1]))
            self.assert_said(desk, "can s w", self.told(can, shape, ways[0]))
            self.assert_said(desk, "always s v", self.told(always, shape, ways[1]))
            self.assert_said(desk, "all s w v", self.told(finds_all, shape, *ways))
            self.assert_said(desk, "all s v w", self.told(finds_all, shape, ways[1], ways[0]))
            self.assert_said(desk, "apart s w v", self.told(apart, shape, *ways))
            self.assert_said(desk, "same s v w", self.told(same, shape, ways[1], ways[0]))
            self.assert_said(desk, "kinds s w", " ".join(kinds_found(shape, ways[0])))
            self.assert_said(desk, "shorter s v", show_way(shorter(shape, ways[1])))
            for tree in trees_of(shape, 4)[:8] + [read_tree("(a (b) (c))")]:
                desk.say("tree t " + show_tree(tree))
                self.assert_said(desk, "has s t", "yes" if has(shape, tree) else "no")
                found = finds(tree, ways[0])
                self.assert_said(desk, "found w t", " ".join(
                    [str(len(found))] + [".".join(str(k) for k in place) for place in found]))

    def told(self, question, shape, *ways):
        try:
            answer = question(shape, *ways)
        except TooGreat as error:
            return f"great {error.size}"
        return answer[0] if len(answer) == 1 else answer[0] + " " + show_tree(answer[1])


class KeptTest(DeskCase):
    def test_a_thing_kept_anew(self):
        desk = book_desk()
        self.assert_said(desk, "tree t (book)", "ok")
        self.assert_said(desk, "has s t", "no")
        self.assert_said(desk, "way w (way (deep (kind note)))", "ok")
        self.assert_said(desk, "can s w", "finds (book (page (note)))")
        self.assert_said(desk, "shape s (start b (rule b book row))", "ok")
        self.assert_said(desk, "has s t", "yes")
        self.assert_said(desk, "can s w", "never")

    def test_one_name_for_a_shape_a_way_and_a_tree(self):
        desk = Desk()
        desk.say("shape x (start b (rule b book row (b 0 1)))")
        desk.say("way x (way (down any))")
        desk.say("tree x (book (book))")
        self.assert_said(desk, "has x x", "yes")
        self.assert_said(desk, "found x x", "1 0")
        self.assert_said(desk, "all x x x", "all")
        self.assert_said(desk, "kinds x x", "book")
        desk.say("tree x (a)")
        self.assert_said(desk, "has x x", "no")
        self.assert_said(desk, "can x x", "finds (book (book))")
        desk.say("way x (way (later any))")
        self.assert_said(desk, "can x x", "never")
        self.assert_said(desk, "has x x", "no")

    def test_names_that_are_words_of_rows(self):
        desk = Desk()
        for name in ["shape", "tree", "has", "found", "can", "always", "all", "apart", "same", "kinds", "shorter", "ok"]:
            desk.say(f"shape {name} (start {name} (rule {name} {name} row))")
            desk.say(f"way {name} (way (deep (kind {name})))")
            desk.say(f"tree {name} ({name})")
            self.assert_said(desk, f"has {name} {name}", "yes")
            self.assert_said(desk, f"found {name} {name}", "0")
            self.assert_said(desk, f"same {name} {name} {name}", "same")

    def test_two_desks(self):
        first, second = Desk(), Desk()
        first.say("tree t (a (b))")
        first.say("way w (way (down any))")
        self.assert_refused(NoName, "found w t", second)
        second.say("tree t (a)")
        self.assert_refused(NoName, "found w t", second)
        second.say("way w (way (deep any))")
        self.assert_said(second, "found w t", "0")
        self.assert_said(first, "found w t", "1 0")
        self.assert_refused(NoName, "found w t", Desk())

    def test_texts_with_blanks_and_line_ends(self):
        desk = Desk()
        self.assert_said(desk, "tree t   (a\n (b)( c ) )  ", "ok")
        self.assert_said(desk, "tree u \n(a (b) (c))\n", "ok")
        self.assert_said(desk, "way w  ( way(down any)\n\n)", "ok")
        self.assert_said(desk, "found w t", "2 0 1")
        self.assert_said(desk, "found w u", "2 0 1")
        self.assert_said(desk, "shape s  (start x(rule x a row(y 0 many))\n(rule y b mix)(rule y c mix))", "ok")
        self.assert_said(desk, "has s u", "yes")

    def test_great_texts(self):
        desk = Desk()
        self.assert_said(desk, "tree t " + "(a" * 1900 + ")" * 1900, "ok")
        self.assert_said(desk, "tree u (a" + " (b)" * 99 + ")", "ok")
        desk.say("way w (way (down (kind b)))")
        self.assert_said(desk, "found w u", "99 " + " ".join(str(k) for k in range(99)))

    def test_three_steps_and_five_rules_are_kept(self):
        desk = book_desk()
        for text in ["(way (down any) (deep any) (later any))", "(way (down (way (deep (way (later any))))))",
                     "(way (down (both (way (deep any)) (way (later any)))))", "(way (down (not (way (down any) (down any)))))"]:
            self.assert_said(desk, "way x " + text, "ok")
            self.assertIn(desk.say("always s x")[:3], ["alw", "not"])
        rules = " ".join(f"(rule x {kind} row (x 0 1))" for kind in "abcde")
        self.assert_said(desk, f"shape x (start x {rules})", "ok")
        self.assert_said(desk, "kinds x w", "a b c d e")


class RefusalsTest(DeskCase):
    def test_what_is_no_text(self):
        for row in [None, 0, 1, True, False, 7, [], ["has", "s", "t"], ("has", "s", "t"), {}, {"has": 1}, b"has s t", 1.5,
                    object(), book_desk()]:
            self.assert_refused(NoRow, row)

    def test_rows_that_are_none(self):
        for row in ["", " ", "  ", "\n", "a", "hello", "s", "shapes s " + BOOK, "trees t (a)", "desk", "kind s w",
                    "finds w t", "never s w", "(a)", BOOK, "has", "found", "shape", "way", "tree", "ok", "great 61",
                    "find w t", "both s w v", "way(w) (way (down any))", "has\ns\nt", "has\ts\tt", "has,s,t",
                    "start s t", "rule s t", "mark s t", "any s t"]:
            self.assert_refused(NoRow, row)

    def test_another_case(self):
        for word in list(ASKED) + ["shape", "way", "tree"]:
            for other in [word.upper(), word.title(), word[:-1] + word[-1].upper()]:
                names = " s w w"[:2 * ASKED.get(word, 1)]
                text = "" if word in ASKED else " (a)"
                self.assert_refused(NoRow, other + names + text)

    def test_a_word_too_few_or_too_many(self):
        names = {"has": "s t", "found": "w t", "all": "s w v", "apart": "s w v", "same": "s w v"}
        for word in ASKED:
            given = names.get(word, "s w").split()
            self.assertIsInstance(book_desk().say(" ".join([word] + given)), str)
            for count in range(len(given)):
                self.assert_refused(NoRow, " ".join([word] + given[:count]))
            for more in ["w", "s", "t", "x", "(a)", "zz zz", "X"]:
                self.assert_refused(NoRow, " ".join([word] + given + [more]))

    def test_words_without_signs(self):
        for row in ["has  s t", " has s t", "has s  t", "has s t ", "has s t  ", "found w t ", "can s w ", "all s w v ",
                    "all s w  v", "kinds  s w", "has    ", " shape s " + BOOK, " ", "  has s"]:
            self.assert_refused(NoRow, row)
        # As many words as there must be, but one of them without signs.
        for row in ["has s ", "has  t", "has  ", "found  t", "found w ", "can s ", "can  w", "all s w ", "all s  v",
                    "all  w v", "all   ", "same s  w", "kinds s ", "shorter  w", "shape  " + BOOK, "tree  (a)",
                    "way  (way (down any))", "tree  ", "shape  ", "way   ", "tree  t (a)"]:
            self.assert_refused(NoName, row)

    def test_a_row_that_keeps_must_have_a_blank_behind_the_name(self):
        for row in ["shape s", "way w", "tree t", "tree (a)", "tree", "tree ", "shape ", "way ", "tree T", "way mark"]:
            self.assert_refused(NoRow, row)
        for row in ["shape s ", "way w ", "tree t ", "tree t  ", "tree t \n"]:
            self.assert_refused(NoText, row)

    def test_what_is_no_name(self):
        for name in NO_NAMES + ["s\nt", "\n", "s\t", "t,", "st1"]:
            for row in [f"shape {name} {BOOK}", f"way {name} (way (down any))", f"tree {name} (a)", f"has {name} t",
                        f"has s {name}", f"found {name} t", f"all s w {name}", f"all s {name} v", f"all {name} w v",
                        f"kinds s {name}", f"shape {name} (", f"tree {name} "]:
                self.assert_refused(NoName, row)

    def test_names_by_which_nothing_is_kept(self):
        for row in ["has x t", "has s x", "has x x", "found x t", "found w x", "can x w", "can s x", "always s x",
                    "all s w x", "all s x v", "all x w v", "apart s w x", "same s x w", "kinds x w", "shorter s x"]:
            self.assert_refused(NoName, row)

    def test_names_by_which_another_sort_of_thing_is_kept(self):
        for row in ["has t s", "has s w", "has w t", "has s s", "found t w", "found s t", "found w s", "found w w",
                    "can w s", "can s s", "can s t", "always w w", "all s w t", "all s t w", "all w w w", "apart s s w",
                    "same t w v", "kinds s t", "kinds w w", "shorter s s", "shorter t w"]:
            self.assert_refused(NoName, row)

    def test_texts_that_write_none(self):
        for sort, texts in {"shape": ["(start x)", "(start x (rule x a row)", "(book)", "x", "()", "(way (down any))",
                                      "(start x (rule x a row (x 2 1)))", "(start x (rule x a row)) x"],
                            "way": ["(way)", "(way (down))", "(way (up any))", "(book)", "any", "(kind a)",
                                    "(way (down mark))", "(way (down any)) (way (down any))", BOOK],
                            "tree": ["(book", "book", "(book))", "(Book)", "()", "(a) (b)", "(way)", "(mark)", BOOK]}.items():
            for text in texts:
                self.assert_refused(NoText, f"{sort} {sort[0]} {text}")
                self.assert_refused(NoText, f"{sort} x {text}")

    def test_more_than_three_steps(self):
        for text in ["(way (down any) (down any) (down any) (down any))",
                     "(way (down any) (down any) (down (way (later any))))",
                     "(way (down (way (down (way (down (way (down any))))))))",
                     "(way (down (both (way (down any) (down any)) (not (way (down any))))))",
                     "(way" + " (later any)" * 40 + ")"]:
            self.assert_refused(NoText, "way w " + text)
            self.assert_refused(NoText, "way x " + text)

    def test_more_than_five_rules(self):
        rules = " ".join(f"(rule x {kind} row (x 0 1))" for kind in "abcdef")
        self.assert_refused(NoText, f"shape s (start x {rules})")
        self.assert_refused(NoText, f"shape x (start x {rules})")
        # Not sound either, but the text is refused first.
        self.assert_refused(NoText, f"shape x (start y {rules})")
        self.assert_refused(NoText, f"shape x (start x {rules} (rule x a row (x 0 1) (x 0 1)))")

    def test_shapes_that_are_not_sound(self):
        for name in "sx":
            twice = self.assert_refused(Twice, f"shape {name} (start y (rule x a row (z 0 1) (x 0 1) (z 0 1)))")
            self.assertEqual(twice.name, "z")
            start = self.assert_refused(NoRule, f"shape {name} (start y (rule x a row (z 0 1)))")
            self.assertEqual(start.name, "y")
            item = self.assert_refused(NoRule, f"shape {name} (start x (rule x a row (x 0 1) (z 0 1)) (rule x b mix (y 0 0)))")
            self.assertEqual(item.name, "z")

    def test_the_order_of_refusals(self):
        self.assert_refused(NoRow, "shape S")
        self.assert_refused(NoRow, "has X Y Z")
        self.assert_refused(NoName, "shape S (start")
        self.assert_refused(NoName, "shape S (start y (rule x a row))")
        self.assert_refused(NoName, "way W (way" + " (later any)" * 4 + ")")
        self.assert_refused(NoText, "shape s (start y (rule x a row)")
        self.assert_refused(NoText, "way w (way (down any) (down any) (down any) (down any)")


if __name__ == "__main__":
    unittest.main()
