"""The table of a look: a row for each step of all ways in it."""

from pathshape.nests import folded, look_parts, look_with


def table_of(look):
    rows = []
    changed = folded(look, look_parts, lambda one, parts: exchanged(one, parts, rows, add_row))
    return (tuple(rows), changed)


def merged_table_of(look):
    # Steps that are alike, and go on alike, have one row: the fewer rows, the fewer masks there are.
    rows = []
    changed = folded(look, look_parts, lambda one, parts: exchanged(one, parts, rows, merge_row))
    return (tuple(rows), changed)


def exchanged(look, parts, rows, add):
    if look[0] == "way":
        return ("from", add_way(look[1], parts, rows, add))
    return look_with(look, parts)


def add_way(way, looks, rows, add):
    # From the last step on back, since a row tells the number of the one behind it.
    rest = None
    for step, look in reversed(list(zip(way, looks))):
        rest = add(rows, (step[0], look, rest))
    return rest


def add_row(rows, row):
    rows.append(row)
    return len(rows) - 1


def merge_row(rows, row):
    return rows.index(row) if row in rows else add_row(rows, row)
