"""What the tests share."""

import random
import re
import unittest

from pathshape import errors

KEPT_WORDS = ["start", "rule", "row", "mix", "many", "any", "kind", "not", "both", "either", "way", "mark"]

NO_NAMES = KEPT_WORDS + ["A", "aB", "a1", "1", "a_b", "a-b", "a.b", "~", "'a'", "()", "(a)", "abcdefghi"]

NO_TEXTS = [0, 1, -3, None, True, False, [], ["(a)"], (), ("(a)",), ("a", ()), {}, b"(a)", 1.5, object()]

ANY = ("any",)

# Texts of looks, and the looks that they write.
LOOKS = {"any": ANY,
         "(kind a)": ("kind", "a"),
         "(kind down)": ("kind", "down"),
         "(not any)": ("not", ANY),
         "(both any (kind a))": ("both", ANY, ("kind", "a")),
         "(both (kind a) any)": ("both", ("kind", "a"), ANY),
         "(either (kind a) (kind b))": ("either", ("kind", "a"), ("kind", "b")),
         "(way (down any))": ("way", (("down", ANY),)),
         "(way (deep (kind a)) (later any))": ("way", (("deep", ("kind", "a")), ("later", ANY)))}

# The text ahead of a look, the text behind it, and the value about it.
NESTS = [("(not ", ")", lambda look: ("not", look)),
         ("(both ", " any)", lambda look: ("both", look, ANY)),
         ("(both any ", ")", lambda look: ("both", ANY, look)),
         ("(either ", " (kind b))", lambda look: ("either", look, ("kind", "b"))),
         ("(either (kind b) ", ")", lambda look: ("either", ("kind", "b"), look)),
         ("(way (down ", "))", lambda look: ("way", (("down", look),))),
         ("(way (deep any) (later ", "))", lambda look: ("way", (("deep", ANY), ("later", look)))),
         ("(way (later ", ") (deep (kind c)))", lambda look: ("way", (("later", look), ("deep", ("kind", "c")))))]

# Each low and high that an item may have.
BOUNDS = [(0, 0), (0, 1), (0, 2), (0, None), (1, 1), (1, 2), (1, None), (2, 2), (2, None)]

REFUSALS = (errors.NoText, errors.NoShape, errors.NoSort, errors.NoRow, errors.NoName, errors.Twice, errors.NoRule,
            errors.TooGreat)


def words_of(text):
    """The words of a text that has a blank, a line end or a bracket between any two of them."""
    return text.replace("(", " ( ").replace(")", " ) ").split()


def tight(words):
    """The words with no blanks about brackets, and one between any other two."""
    text = " ".join(words)
    for bracket in "()":
        text = text.replace(" " + bracket, bracket).replace(bracket + " ", bracket)
    return text


def spellings(text):
    """The same words with all sorts of blanks and line ends about them."""
    words = words_of(text)
    gaps = [" ", "  ", "     ", "\n", "\n\n", " \n ", "\n  \n"]
    bodies = [tight(words)] + [gap.join(words) for gap in gaps]
    return [gap + body for body in bodies for gap in [""] + gaps] + [
        body + gap for body in bodies for gap in gaps] + [
        gap + body + gap for body in bodies for gap in gaps]


def without_one(words, chosen):
    """The texts that lack one of the words."""
    return [tight(words[:k] + words[k + 1:]) for k in range(len(words)) if words[k] in chosen]


def with_one_more(words, added):
    """The texts that have one word more, wherever it may stand."""
    return [tight(words[:k] + [added] + words[k:]) for k in range(len(words) + 1)]


def chain(size, kind="a"):
    """A tree of so many places, each but the last with one part."""
    tree = (kind, ())
    for number in range(size - 1):
        tree = (kind, (tree,))
    return tree


def broad(size, kind="a", part="b"):
    """A tree of so many places, all but the top being parts of the top."""
    return (kind, ((part, ()),) * (size - 1))


def rows_of_trees(size, kinds):
    """All rows of trees with so many places together."""
    if size == 0:
        return [()]
    return [(tree,) + rest for first in range(1, size + 1) for tree in all_trees(first, kinds)
            for rest in rows_of_trees(size - first, kinds)]


def all_trees(size, kinds):
    """All trees of so many places with these kinds."""
    return [(kind, parts) for kind in kinds for parts in rows_of_trees(size - 1, kinds)]


def mixed_tree(size, kinds, seed):
    """A tree of so many places, each a part of any one ahead of it; the same one for the same seed."""
    chance = random.Random(seed)
    above = [chance.randrange(number) for number in range(1, size)]
    parts = [[] for number in range(size)]
    for number in reversed(range(size)):
        tree = (chance.choice(kinds), tuple(parts[number]))
        if number > 0:
            parts[above[number - 1]].insert(0, tree)
    return tree


def some_look(chance, depth, ends=(ANY, ("kind", "a"), ("kind", "b"))):
    """Some look, with one of the ends where it nests no further."""
    sort = chance.choice(["not", "both", "either", "way", "end"]) if depth > 1 else "end"
    if sort == "end":
        return chance.choice(ends)
    if sort == "way":
        return ("way", some_way(chance, depth - 1, ends))
    if sort == "not":
        return ("not", some_look(chance, depth - 1, ends))
    return (sort, some_look(chance, depth - 1, ends), some_look(chance, depth - 1, ends))


def some_way(chance, depth, ends=(ANY, ("kind", "a"), ("kind", "b"))):
    return tuple((chance.choice(["down", "deep", "later"]), some_look(chance, depth, ends))
                 for number in range(chance.choice([1, 1, 2, 3])))


def is_from_to(count, low, high):
    return count >= low and (high is None or count <= high)


def let_plainly(rule, names):
    """What the document says of the rows that a rule lets by, for names of one letter each."""
    order, items = rule[2], rule[3]
    if order == "mix":
        return all(is_from_to(names.count(name), low, high) for name, low, high in items) and all(
            name in [item[0] for item in items] for name in names)
    form = "".join(f"{name}{{{low},{'' if high is None else high}}}" for name, low, high in items)
    return re.fullmatch(form, "".join(names)) is not None


class PlainCase(unittest.TestCase):
    def assert_plain(self, value):
        """Equal isn't enough: True equals 1, and a value of another class may equal a tuple."""
        if type(value) is tuple:
            for part in value:
                self.assert_plain(part)
        elif value is not None:
            self.assertIn(type(value), (int, str))

    def assert_refusal(self, refusal, call, *given):
        """That the call is refused with this class and none of the others; gives the error."""
        with self.assertRaises(refusal, msg=repr(given)[:200]) as caught:
            call(*given)
        self.assertIsInstance(caught.exception, errors.PathError)
        self.assertIsInstance(caught.exception, ValueError)
        self.assertEqual([one for one in REFUSALS if isinstance(caught.exception, one)], [refusal])
        return caught.exception


class ReadCase(PlainCase):
    """Checks for one of the read functions, which a test case tells by `read`."""

    def read(self, text):
        raise NotImplementedError

    def assert_read(self, text, value):
        self.assertEqual(self.read(text), value, repr(text))
        self.assert_plain(self.read(text))

    def assert_spelled(self, text, value):
        for spelling in spellings(text):
            self.assert_read(spelling, value)

    def assert_refused(self, text):
        self.assert_refusal(errors.NoText, self.read, text)

    def assert_all_refused(self, texts):
        for text in texts:
            with self.subTest(text=repr(text)[:200]):
                self.assert_refused(text)

    def assert_frail(self, text):
        """Of a text that is read: it is refused with one word less, or a bracket or a word more."""
        words = words_of(text)
        self.read(text)
        self.assert_all_refused(without_one(words, words))
        self.assert_all_refused(with_one_more(words, "("))
        self.assert_all_refused(with_one_more(words, ")"))
        self.assert_all_refused(with_one_more(words, "mark"))
        self.assert_all_refused(tight(words[:k] + [words[k]] + words[k:]) for k in range(len(words)))
        self.assert_all_refused([text + text, text + " " + text, text + "\n" + text, "(" + text + ")"])
        self.assert_all_refused([text + " a", "a " + text, text + " any", text + "()", "()" + text,
                                 text + " 0", text + " (a)", "(a) " + text])
        self.assert_all_refused([")" + text + "(", tight(words[1:-1]), tight([")"] + words[1:-1] + ["("])])

    def assert_nothing_refused_alike(self):
        """What writes none, whichever of the three is read."""
        self.assert_all_refused(["", " ", "   ", "\n", " \n \n", "(", ")", "()", ")(", "( )", "(())", "()()",
                                 "a", "a b", "any", "mark", "way", "start", "0", "many", "(0)", "(any)",
                                 "(mark)", "(many)", "[a]", "{a}", "<a>", "\"(a)\"", "(A)", "-", "~"])
        self.assert_all_refused(NO_TEXTS)
        handed_in = [["(", "a", ")"], {"(a)": "(a)"}]
        self.assert_all_refused(handed_in)
        self.assertEqual(handed_in, [["(", "a", ")"], {"(a)": "(a)"}])

    def assert_deep_nothing_refused(self):
        """Six thousand signs that write none, however deep they nest."""
        self.assert_all_refused(["(" * 6000, ")" * 6000, "(" * 3000 + ")" * 3000, "()" * 3000,
                                 ")" * 3000 + "(" * 3000, "(a" * 3000, "a" * 6000, " " * 6000, "\n" * 6000])
