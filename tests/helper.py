"""What the tests share."""

import itertools
import random
import re
import unittest

from pathshape import errors
from pathshape.places import gone_to, tree_at
from pathshape.reader import read_shape

KEPT_WORDS = ["start", "rule", "row", "mix", "many", "any", "kind", "not", "both", "either", "way", "mark"]

NO_NAMES = KEPT_WORDS + ["A", "aB", "a1", "1", "a_b", "a-b", "a.b", "~", "'a'", "()", "(a)", "abcdefghi"]

NO_TEXTS = [0, 1, -3, None, True, False, [], ["(a)"], (), ("(a)",), ("a", ()), {}, b"(a)", 1.5, object()]

ANY = ("any",)

# Texts of looks, and the looks that they write.
LOOKS = {"any": ANY,
         "(kind a)": ("kind", "a"),
         "(kind down)": ("kind", "down"),
         "(not any)": ("not", ANY),
         "(both any (kind a))": ("both", ANY, ("kind", "a")),
         "(both (kind a) any)": ("both", ("kind", "a"), ANY),
         "(either (kind a) (kind b))": ("either", ("kind", "a"), ("kind", "b")),
         "(way (down any))": ("way", (("down", ANY),)),
         "(way (deep (kind a)) (later any))": ("way", (("deep", ("kind", "a")), ("later", ANY)))}

# The text ahead of a look, the text behind it, and the value about it.
NESTS = [("(not ", ")", lambda look: ("not", look)),
         ("(both ", " any)", lambda look: ("both", look, ANY)),
         ("(both any ", ")", lambda look: ("both", ANY, look)),
         ("(either ", " (kind b))", lambda look: ("either", look, ("kind", "b"))),
         ("(either (kind b) ", ")", lambda look: ("either", ("kind", "b"), look)),
         ("(way (down ", "))", lambda look: ("way", (("down", look),))),
         ("(way (deep any) (later ", "))", lambda look: ("way", (("deep", ANY), ("later", look)))),
         ("(way (later ", ") (deep (kind c)))", lambda look: ("way", (("later", look), ("deep", ("kind", "c")))))]

# Each low and high that an item may have.
BOUNDS = [(0, 0), (0, 1), (0, 2), (0, None), (1, 1), (1, 2), (1, None), (2, 2), (2, None)]

# Shapes of which only the trees with two parts of the kind l at the top have just so many places, and others fewer.
SIZED = {60: read_shape("(start a (rule a k row (c 2 2) (b 0 2) (d 1 1)) (rule b l row (c 2 2) (d 1 1))"
                        "(rule c m row (d 2 2) (e 1 1)) (rule d n row (e 2 2)) (rule e o row))"),
         61: read_shape("(start a (rule a k row (c 2 2) (b 0 2) (e 2 2)) (rule b l row (c 2 2) (d 1 1) (e 1 1))"
                        "(rule c m row (d 2 2) (e 1 1)) (rule d n row (e 2 2)) (rule e o row))")}

REFUSALS = (errors.NoText, errors.NoShape, errors.NoSort, errors.NoRow, errors.NoName, errors.Twice, errors.NoRule,
            errors.TooGreat)


def words_of(text):
    """The words of a text that has a blank, a line end or a bracket between any two of them."""
    return text.replace("(", " ( ").replace(")", " ) ").split()


def tight(words):
    """The words with no blanks about brackets, and one between any other two."""
    text = " ".join(words)
    for bracket in "()":
        text = text.replace(" " + bracket, bracket).replace(bracket + " ", bracket)
    return text


def spellings(text):
    """The same words with all sorts of blanks and line ends about them."""
    words = words_of(text)
    gaps = [" ", "  ", "     ", "\n", "\n\n", " \n ", "\n  \n"]
    bodies = [tight(words)] + [gap.join(words) for gap in gaps]
    return [gap + body for body in bodies for gap in [""] + gaps] + [
        body + gap for body in bodies for gap in gaps] + [
        gap + body + gap for body in bodies for gap in gaps]


def without_one(words, chosen):
    """The texts that lack one of the words."""
    return [tight(words[:k] + words[k + 1:]) for k in range(len(words)) if words[k] in chosen]


def with_one_more(words, added):
    """The texts that have one word more, wherever it may stand."""
    return [tight(words[:k] + [added] + words[k:]) for k in range(len(words) + 1)]


def chain(size, kind="a"):
    """A tree of so many places, each but the last with one part."""
    tree = (kind, ())
    for number in range(size - 1):
        tree = (kind, (tree,))
    return tree


def broad(size, kind="a", part="b"):
    """A tree of so many places, all but the top being parts of the top."""
    return (kind, ((part, ()),) * (size - 1))


def rows_of_trees(size, kinds):
    """All rows of trees with so many places together."""
    if size == 0:
        return [()]
    return [(tree,) + rest for first in range(1, size + 1) for tree in all_trees(first, kinds)
            for rest in rows_of_trees(size - first, kinds)]


def all_trees(size, kinds):
    """All trees of so many places with these kinds."""
    return [(kind, parts) for kind in kinds for parts in rows_of_trees(size - 1, kinds)]


def mixed_tree(size, kinds, seed):
    """A tree of so many places, each a part of any one ahead of it; the same one for the same seed."""
    chance = random.Random(seed)
    above = [chance.randrange(number) for number in range(1, size)]
    parts = [[] for number in range(size)]
    for number in reversed(range(size)):
        tree = (chance.choice(kinds), tuple(parts[number]))
        if number > 0:
            parts[above[number - 1]].insert(0, tree)
    return tree


def some_look(chance, depth, ends=(ANY, ("kind", "a"), ("kind", "b"))):
    """Some look, with one of the ends where it nests no further."""
    sort = chance.choice(["not", "both", "either", "way", "end"]) if depth > 1 else "end"
    if sort == "end":
        return chance.choice(ends)
    if sort == "way":
        return ("way", some_way(chance, depth - 1, ends))
    if sort == "not":
        return ("not", some_look(chance, depth - 1, ends))
    return (sort, some_look(chance, depth - 1, ends), some_look(chance, depth - 1, ends))


def some_way(chance, depth, ends=(ANY, ("kind", "a"), ("kind", "b"))):
    return tuple((chance.choice(["down", "deep", "later"]), some_look(chance, depth, ends))
                 for number in range(chance.choice([1, 1, 2, 3])))


def is_from_to(count, low, high):
    return count >= low and (high is None or count <= high)


def let_plainly(rule, names):
    """What the document says of the rows that a rule lets by, for names of one letter each."""
    order, items = rule[2], rule[3]
    if order == "mix":
        return all(is_from_to(names.count(name), low, high) for name, low, high in items) and all(
            name in [item[0] for item in items] for name in names)
    form = "".join(f"{name}{{{low},{'' if high is None else high}}}" for name, low, high in items)
    return re.fullmatch(form, "".join(names)) is not None


def holds_plainly(tree, look, place, marked=None):
    """The words of the document, one by one."""
    if look[0] == "any":
        return True
    if look[0] == "mark":
        return place == marked
    if look[0] == "kind":
        return tree_at(tree, place)[0] == look[1]
    if look[0] == "not":
        return not holds_plainly(tree, look[1], place, marked)
    if look[0] == "both":
        return holds_plainly(tree, look[1], place, marked) and holds_plainly(tree, look[2], place, marked)
    if look[0] == "either":
        return holds_plainly(tree, look[1], place, marked) or holds_plainly(tree, look[2], place, marked)
    return finds_plainly(tree, look[1], place, marked) != []


def finds_plainly(tree, way, place, marked=None):
    found = {place}
    for go, look in way:
        gone = {other for one in found for other in gone_to(tree, go, one)}
        found = {other for other in gone if holds_plainly(tree, look, other, marked)}
    return sorted(found)


def put_back(rows, look):
    """The look with its ways in it again."""
    if look[0] == "from":
        steps = []
        number = look[1]
        while number is not None:
            go, inner, number = rows[number]
            steps.append((go, put_back(rows, inner)))
        return ("way", tuple(steps))
    if look[0] == "kind":
        return look
    return (look[0],) + tuple(put_back(rows, part) for part in look[1:])


def some_shape(chance):
    """A sound shape of a few rules, with the names u to x and the kinds a and b."""
    names = "uvwx"[:chance.choice([1, 2, 3, 4])]
    rules = []
    for name in names + "".join(chance.choice(names) for number in range(chance.choice([0, 1, 2, 4]))):
        items = tuple((item, *chance.choice(BOUNDS)) for item in chance.sample(names, chance.randrange(len(names))))
        rules.append((name, chance.choice("ab"), chance.choice(["row", "mix"]), items[:3]))
    return (chance.choice(names), tuple(rules))


def rich_shape(chance):
    """A sound shape of three to five rules, with the kinds a and b, most of whose lows are 0."""
    names = "uvw"[:chance.choice([2, 3])]
    bounds = BOUNDS + BOUNDS[1:4] * 4
    rules = tuple((name, chance.choice("ab"), chance.choice(["row", "mix"]), tuple(
        (item, *chance.choice(bounds)) for item in chance.sample(names, chance.choice([0, 1, 2, 2, len(names)]))))
        for name in names + "".join(chance.choice(names) for number in range(chance.choice([1, 2]))))
    return (chance.choice(names), rules)


def rows_of_named(by_size, size):
    """All rows of trees that have names, with so many places together."""
    if size == 0:
        return [()]
    return [(tree,) + rest for first in range(1, size + 1) for tree in by_size[first]
            for rest in rows_of_named(by_size, size - first)]


def named_trees(shape, most):
    """All trees of up to so many places that have names, and these, by the plain words."""
    named = {}
    by_size = {}
    for size in range(1, most + 1):
        by_size[size] = []
        for parts in rows_of_named(by_size, size - 1):
            rows = [list(row) for row in itertools.product(*[named[part] for part in parts])]
            for kind in sorted({rule[1] for rule in shape[1]}):
                rules = [rule for rule in shape[1] if rule[1] == kind]
                names = {rule[0] for rule in rules if any(let_plainly(rule, row) for row in rows)}
                if names:
                    named[(kind, parts)] = sorted(names)
                    by_size[size].append((kind, parts))
    return named


def trees_of(shape, most):
    """All trees of the shape of up to so many places, the smallest first."""
    return [tree for tree, names in named_trees(shape, most).items() if shape[0] in names]


def size_of(tree):
    return 1 + sum(size_of(part) for part in tree[1])


def renumbered(look, numbers):
    if look[0] == "from":
        return ("from", numbers[look[1]])
    if look[0] in ("not", "both", "either"):
        return (look[0],) + tuple(renumbered(part, numbers) for part in look[1:])
    return look


def reordered(rows, look, numbers):
    """The table with row j at the place numbers[j], and the look by it."""
    changed = [None] * len(rows)
    for j, (go, inner, rest) in enumerate(rows):
        changed[numbers[j]] = (go, renumbered(inner, numbers), None if rest is None else numbers[rest])
    return (tuple(changed), renumbered(look, numbers))


class PlainCase(unittest.TestCase):
    def assert_plain(self, value):
        """Equal isn't enough: True equals 1, and a value of another class may equal a tuple."""
        if type(value) is tuple:
            for part in value:
                self.assert_plain(part)
        elif value is not None:
            self.assertIn(type(value), (int, str))

    def assert_refusal(self, refusal, call, *given):
        """That the call is refused with this class and none of the others; gives the error."""
        with self.assertRaises(refusal, msg=repr(given)[:200]) as caught:
            call(*given)
        self.assertIsInstance(caught.exception, errors.PathError)
        self.assertIsInstance(caught.exception, ValueError)
        self.assertEqual([one for one in REFUSALS if isinstance(caught.exception, one)], [refusal])
        return caught.exception


class ReadCase(PlainCase):
    """Checks for one of the read functions, which a test case tells by `read`."""

    def read(self, text):
        raise NotImplementedError

    def assert_read(self, text, value):
        self.assertEqual(self.read(text), value, repr(text))
        self.assert_plain(self.read(text))

    def assert_spelled(self, text, value):
        for spelling in spellings(text):
            self.assert_read(spelling, value)

    def assert_refused(self, text):
        self.assert_refusal(errors.NoText, self.read, text)

    def assert_all_refused(self, texts):
        for text in texts:
            with self.subTest(text=repr(text)[:200]):
                self.assert_refused(text)

    def assert_frail(self, text):
        """Of a text that is read: it is refused with one word less, or a bracket or a word more."""
        words = words_of(text)
        self.read(text)
        self.assert_all_refused(without_one(words, words))
        self.assert_all_refused(with_one_more(words, "("))
        self.assert_all_refused(with_one_more(words, ")"))
        self.assert_all_refused(with_one_more(words, "mark"))
        self.assert_all_refused(tight(words[:k] + [words[k]] + words[k:]) for k in range(len(words)))
        self.assert_all_refused([text + text, text + " " + text, text + "\n" + text, "(" + text + ")"])
        self.assert_all_refused([text + " a", "a " + text, text + " any", text + "()", "()" + text,
                                 text + " 0", text + " (a)", "(a) " + text])
        self.assert_all_refused([")" + text + "(", tight(words[1:-1]), tight([")"] + words[1:-1] + ["("])])

    def assert_nothing_refused_alike(self):
        """What writes none, whichever of the three is read."""
        self.assert_all_refused(["", " ", "   ", "\n", " \n \n", "(", ")", "()", ")(", "( )", "(())", "()()",
                                 "a", "a b", "any", "mark", "way", "start", "0", "many", "(0)", "(any)",
                                 "(mark)", "(many)", "[a]", "{a}", "<a>", "\"(a)\"", "(A)", "-", "~"])
        self.assert_all_refused(NO_TEXTS)
        handed_in = [["(", "a", ")"], {"(a)": "(a)"}]
        self.assert_all_refused(handed_in)
        self.assertEqual(handed_in, [["(", "a", ")"], {"(a)": "(a)"}])

    def assert_deep_nothing_refused(self):
        """Six thousand signs that write none, however deep they nest."""
        self.assert_all_refused(["(" * 6000, ")" * 6000, "(" * 3000 + ")" * 3000, "()" * 3000,
                                 ")" * 3000 + "(" * 3000, "(a" * 3000, "a" * 6000, " " * 6000, "\n" * 6000])
