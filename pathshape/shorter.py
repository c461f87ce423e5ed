"""Ways told shorter: looks are let go of where nothing hangs on them."""

from pathshape.nests import all_within, folded, look_parts, look_with
from pathshape.questions import is_same

ANY = ("any",)


def looks_in(way):
    # The way itself, as a look, comes ahead of all looks in it.
    return all_within(("way", way), look_parts)[1:]


def let_go(way, number):
    # Looks are made from the last one on back, so this many are made ahead of the one that is let go of.
    behind = len(looks_in(way)) - 1 - number
    made = []

    def make(look, parts):
        made.append(look)
        return ANY if len(made) - 1 == behind else look_with(look, parts)

    return folded(("way", way), look_parts, make)[1]


def shorter(shape, way):
    told = after_round(shape, way)
    while told != way:
        way = told
        told = after_round(shape, way)
    return way


def after_round(shape, way):
    number = 0
    # Looks that are let go of take all that is in them along, so their count may fall.
    while number < len(looks_in(way)):
        if looks_in(way)[number] != ANY:
            way = without(shape, way, number)
        number += 1
    return way


def without(shape, way, number):
    # The way itself where the look may not be let go of.
    less = let_go(way, number)
    return less if is_same(shape, less, way) else way
