"""Masks: which rows of a table hit a place, told by what is below and beside it.

Each ("from", j) asks one bit, of below or of beside, by the go of row j. These
bits of both, put together, are what is seen from the place.
"""

from pathshape.nests import folded, look_parts
from pathshape.places import placed_trees


def says(rows, look, kind, marked, below, beside):
    return holds_by(look, kind, marked, MaskBook(rows).seen(below, beside))


def mask_of(rows, kind, marked, below, beside):
    return MaskBook(rows).mask(kind, marked, below, beside)


def masks(rows, tree, marked=None):
    book = MaskBook(rows)
    told = {}
    # Gone through from the end: the parts of a tree come ahead of it, and later brothers ahead of earlier ones.
    together = {}
    for place, part in reversed(placed_trees(tree)):
        below = together.get(place, 0)
        beside = 0 if place == () else together.get(place[:-1], 0)
        mask = book.mask(part[0], place == marked, below, beside)
        told[place] = (below, beside, mask)
        if place != ():
            together[place[:-1]] = beside | mask
    return dict(reversed(list(told.items())))


# The masks by one table. What hits is kept, since many places see the same.
class MaskBook:
    def __init__(self, rows):
        self.rows = rows
        self.into = bits_by_go(rows, ("down", "deep"))
        self.across = bits_by_go(rows, ("later",))
        self.through = bits_by_go(rows, ("deep",))
        self.hits = {}

    def seen(self, below, beside):
        return below & self.into | beside & self.across

    def mask(self, kind, marked, below, beside):
        seen = self.seen(below, beside)
        known = (kind, marked, seen)
        if known not in self.hits:
            self.hits[known] = hits_of(self.rows, kind, marked, seen)
        return self.hits[known] | below & self.through


def bits_by_go(rows, goes):
    return sum([1 << j for j, row in enumerate(rows) if row[0] in goes])


def hits_of(rows, kind, marked, seen):
    return sum([1 << j for j, row in enumerate(rows) if is_hit(row, kind, marked, seen)])


def is_hit(row, kind, marked, seen):
    if row[2] is not None and not is_seen(row[2], seen):
        return False
    return holds_by(row[1], kind, marked, seen)


def is_seen(j, seen):
    return seen >> j & 1 == 1


def holds_by(look, kind, marked, seen):
    return folded(look, look_parts, lambda one, parts: truth_by(one, parts, kind, marked, seen))


def truth_by(look, parts, kind, marked, seen):
    if look[0] == "kind":
        return kind == look[1]
    if look[0] == "mark":
        return bool(marked)
    if look[0] == "from":
        return is_seen(look[1], seen)
    if look[0] == "not":
        return not parts[0]
    if look[0] == "both":
        return parts[0] and parts[1]
    if look[0] == "either":
        return parts[0] or parts[1]
    return True
