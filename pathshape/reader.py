"""Trees, shapes and ways, read from their texts.

A text is read from the inside out: each bracket, once it is shut, is made
into a tuple (sort, value), sort telling what it writes ("tree", "item",
"rule", "shape", "look", "step" or "way"). The parts of a bracket are so
either words or such tuples.
"""

from pathshape.errors import NoText
from pathshape.words import is_name

ORDERS = ("row", "mix")

GOES = ("down", "deep", "later")

# Each word stands at the place of its own number.
COUNTS = ("0", "1", "2")


def read_tree(text):
    return value_of(read_bracket(text, make_tree), "tree")


def read_shape(text):
    return value_of(read_bracket(text, make_in_shape), "shape")


def read_way(text):
    return value_of(read_bracket(text, make_in_way), "way")


def words_of(text):
    if not isinstance(text, str):
        raise NoText("what is read must be a text")
    # Not split(): that would part words at tabs and other signs too.
    spaced = text.replace("\n", " ").replace("(", " ( ").replace(")", " ) ")
    return [word for word in spaced.split(" ") if word != ""]


def read_bracket(text, make):
    # A stack of lists, not calls within calls: a text may nest deeper than calls may go.
    unshut = [[]]
    for word in words_of(text):
        if word == "(":
            unshut.append([])
        elif word == ")":
            parts = unshut.pop()
            if len(unshut) == 0:
                raise NoText("a bracket is shut that was never begun")
            unshut[-1].append(make(parts))
        else:
            unshut[-1].append(word)
    if len(unshut) > 1:
        raise NoText("a bracket is not shut")
    if len(unshut[0]) != 1:
        raise NoText("a text must write one thing")
    return unshut[0][0]


def value_of(part, sort):
    if isinstance(part, tuple) and part[0] == sort:
        return part[1]
    raise NoText(f"what must stand here: {sort}")


def values_of(parts, sort):
    return tuple([value_of(part, sort) for part in parts])


def name_of(part):
    if is_name(part):
        return part
    raise NoText("a name must stand here")


def make_tree(parts):
    if len(parts) == 0:
        raise NoText("a tree must have a kind")
    return ("tree", (name_of(parts[0]), values_of(parts[1:], "tree")))


def make_in_shape(parts):
    if parts[:1] == ["start"]:
        return ("shape", shape_value(parts))
    if parts[:1] == ["rule"]:
        return ("rule", rule_value(parts))
    return ("item", item_value(parts))


def shape_value(parts):
    if len(parts) < 3:
        raise NoText("a shape must have a start and a rule")
    return (name_of(parts[1]), values_of(parts[2:], "rule"))


def rule_value(parts):
    if len(parts) < 4 or parts[3] not in ORDERS:
        raise NoText("a rule must have a name, a kind and an order")
    return (name_of(parts[1]), name_of(parts[2]), parts[3], values_of(parts[4:], "item"))


def item_value(parts):
    if len(parts) != 3:
        raise NoText("an item must have a name, a low and a high")
    low = count_of(parts[1])
    return (name_of(parts[0]), low, high_of(parts[2], low))


def count_of(part):
    if part in COUNTS:
        return COUNTS.index(part)
    raise NoText("0, 1 or 2 must stand here")


def high_of(part, low):
    if part == "many":
        return None
    high = count_of(part)
    if high < low:
        raise NoText("a high must not be below its low")
    return high


def make_in_way(parts):
    if parts[:1] == ["way"]:
        return ("way", way_value(parts))
    if len(parts) == 2 and parts[0] in GOES:
        return ("step", (parts[0], look_of(parts[1])))
    return ("look", look_value(parts))


def way_value(parts):
    if len(parts) < 2:
        raise NoText("a way must have a step")
    return values_of(parts[1:], "step")


def look_value(parts):
    if len(parts) == 2 and parts[0] == "kind":
        return ("kind", name_of(parts[1]))
    if len(parts) == 2 and parts[0] == "not":
        return ("not", look_of(parts[1]))
    if len(parts) == 3 and parts[0] in ("both", "either"):
        return (parts[0], look_of(parts[1]), look_of(parts[2]))
    raise NoText("no step, look or way stands in these brackets")


def look_of(part):
    if part == "any":
        return ("any",)
    if isinstance(part, tuple) and part[0] == "way":
        return ("way", part[1])
    return value_of(part, "look")
