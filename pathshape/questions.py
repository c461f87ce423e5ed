"""Questions about ways and a shape, answered for all trees of the shape at once.

A way finds the marked place where the same way with mark in its last look
finds anything. So whatever two ways find is asked of the sorts of marked trees,
at the top, which has nothing beside it.

Within, a tuple (rows, look) is a table and the look that is asked by it.
"""

from pathshape.masks import says
from pathshape.sorts import Growth
from pathshape.table import merged_table_of
from pathshape.walk import finds


def can(shape, way):
    told = least_example(shape, merged_table_of(("way", way)), False)
    if told is None:
        return ("never",)
    return ("finds", told[0], finds(told[0], way)[0])


def always(shape, way):
    told = least_example(shape, merged_table_of(("not", ("way", way))), False)
    return ("always",) if told is None else ("not", told[0])


def finds_all(shape, way, other):
    told = least_example(shape, two_ways(way, other, second_alone), True)
    return ("all",) if told is None else ("but",) + told


def apart(shape, way, other):
    told = least_example(shape, two_ways(way, other, both_ways), True)
    return ("apart",) if told is None else ("both",) + told


def same(shape, way, other):
    told = least_example(shape, two_ways(way, other, just_one), True)
    return ("same",) if told is None else ("but",) + told


def is_same(shape, way, other):
    # No tree is told here, and so none is too great.
    return not is_there(shape, two_ways(way, other, just_one), True)


def kinds_found(shape, way):
    kinds = sorted(set([rule[1] for rule in shape[1]]))
    return [kind for kind in kinds if finds_kind(shape, way, kind)]


def finds_kind(shape, way, kind):
    return is_there(shape, merged_table_of(("way", with_last(way, ("kind", kind)))), False)


def with_last(way, look):
    last = way[-1]
    return way[:-1] + ((last[0], ("both", last[1], look)),)


def two_ways(way, other, make):
    # The look is made of two, each of which holds at the top where its way finds the marked place.
    looks = [("way", with_last(one, ("mark",))) for one in (way, other)]
    table = merged_table_of(("both", looks[0], looks[1]))
    return (table[0], make(table[1][1], table[1][2]))


def second_alone(first, second):
    return ("both", second, ("not", first))


def both_ways(first, second):
    return ("both", first, second)


def just_one(first, second):
    return ("either", second_alone(first, second), second_alone(second, first))


def is_there(shape, table, marks):
    return first_at_top(Growth(shape, table[0], marks), shape[0], table) is not None


def least_example(shape, table, marks):
    # A least tree of the shape at whose top the look holds, and its marked place; or None.
    growth = Growth(shape, table[0], marks)
    sort = first_at_top(growth, shape[0], table)
    return None if sort is None else growth.example_of(sort)


def first_at_top(growth, start, table):
    return growth.first_sort(lambda sort: sort[0] == start and says_at_top(table, sort))


def says_at_top(table, sort):
    return says(table[0], table[1], sort[1], sort[2] == 1, sort[3], 0)
