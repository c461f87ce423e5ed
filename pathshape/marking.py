"""Trees of a shape: the names of a tree, and markings by them."""

from pathshape.errors import NoShape
from pathshape.places import placed_trees
from pathshape.rules import row_chosen


def names_of(shape, tree):
    return sorted(chosen_by_place(shape, tree)[()])


def has(shape, tree):
    return shape[0] in names_of(shape, tree)


def marking(shape, tree, name=None):
    chosen = chosen_by_place(shape, tree)
    names = {(): shape[0] if name is None else name}
    if names[()] not in chosen[()]:
        raise NoShape("the tree is not of this name")
    numbers = {}
    for place, part in placed_trees(tree):
        choice = chosen[place][names[place]]
        numbers[place] = choice[0]
        for k, below in enumerate(choice[1]):
            names[place + (k,)] = below
    return numbers


def chosen_by_place(shape, tree):
    # For each place and each name of the tree there: a rule's number, and the row of its parts' names.
    chosen = {}
    for place, part in reversed(placed_trees(tree)):
        choices = [chosen[place + (k,)] for k in range(len(part[1]))]
        chosen[place] = chosen_rules(shape[1], part[0], choices)
    return chosen


def chosen_rules(rules, kind, choices):
    found = {}
    for number, rule in enumerate(rules):
        if rule[1] == kind and rule[0] not in found:
            row = row_chosen(rule, choices)
            if row is not None:
                found[rule[0]] = (number, row)
    return found
