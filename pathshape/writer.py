"""Trees, shapes, ways and looks, shown as texts."""

from pathshape.nests import folded, look_parts, tree_parts


def show_tree(tree):
    return folded(tree, tree_parts, tree_text)


def show_shape(shape):
    return bracket(["start", shape[0]] + [rule_text(rule) for rule in shape[1]])


def show_way(way):
    return show_look(("way", way))


def show_look(look):
    return folded(look, look_parts, look_text)


def bracket(words):
    return "(" + " ".join(words) + ")"


def tree_text(tree, parts):
    return bracket([tree[0]] + parts)


def rule_text(rule):
    return bracket(["rule", rule[0], rule[1], rule[2]] + [item_text(item) for item in rule[3]])


def item_text(item):
    high = "many" if item[2] is None else str(item[2])
    return bracket([item[0], str(item[1]), high])


def look_text(look, parts):
    if look[0] in ("any", "mark"):
        return look[0]
    if look[0] == "kind":
        return bracket(["kind", look[1]])
    if look[0] == "way":
        return bracket(["way"] + [bracket([step[0], part]) for step, part in zip(look[1], parts)])
    return bracket([look[0]] + parts)
