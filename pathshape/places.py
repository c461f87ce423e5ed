"""The places of a tree, and where one comes to from them."""

from pathshape.nests import all_within


def all_places(tree):
    return [place for place, part in placed_trees(tree)]


def tree_at(tree, place):
    for k in place:
        tree = tree[1][k]
    return tree


def gone_to(tree, go, place):
    if go == "later":
        return later_brothers(tree, place)
    part = tree_at(tree, place)
    if go == "down":
        return [place + (k,) for k in range(len(part[1]))]
    return [place + inner for inner in all_places(part)[1:]]


def later_brothers(tree, place):
    if place == ():
        return []
    above = place[:-1]
    return [above + (k,) for k in range(place[-1] + 1, len(tree_at(tree, above)[1]))]


def placed_trees(tree):
    # Pairs of a place and the tree there, sorted as the places are.
    return all_within(((), tree), placed_parts)


def placed_parts(placed):
    return [(placed[0] + (k,), part) for k, part in enumerate(placed[1][1])]
