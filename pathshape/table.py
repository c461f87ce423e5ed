"""The table of a look: a row for each step of all ways in it."""

from pathshape.nests import folded, look_parts


def table_of(look):
    rows = []
    changed = folded(look, look_parts, lambda one, parts: exchanged(one, parts, rows))
    return (tuple(rows), changed)


def exchanged(look, parts, rows):
    if look[0] == "way":
        return ("from", add_rows(look[1], parts, rows))
    if len(parts) == 0:
        return look
    return (look[0],) + tuple(parts)


def add_rows(way, looks, rows):
    # From the last step on back, since a row tells the number of the one behind it.
    rest = None
    for step, look in reversed(list(zip(way, looks))):
        rows.append((step[0], look, rest))
        rest = len(rows) - 1
    return rest
