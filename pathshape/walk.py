"""Ways walked plainly: what they find in a tree, and where looks hold.

Within, a place is told by its number in the row of all places of the tree,
and what holds where by a list of truths, one for each place in this row.
"""

from pathshape.nests import folded, look_parts
from pathshape.places import all_places, gone_to, placed_trees


def holds(tree, look):
    truths = truths_of(kinds_in(tree), reached_in(tree), look)
    return [place for place, truth in zip(all_places(tree), truths) if truth]


def finds(tree, way):
    kinds = kinds_in(tree)
    reached = reached_in(tree)
    # The top is the first of all places.
    found = [0]
    for go, look in way:
        found = stepped(found, reached[go], truths_of(kinds, reached, look))
    places = all_places(tree)
    return [places[number] for number in found]


def kinds_in(tree):
    return [part[0] for place, part in placed_trees(tree)]


def reached_in(tree):
    # For each go, and each place, the places gone to from there.
    numbers = {}
    for number, place in enumerate(all_places(tree)):
        numbers[place] = number
    reached = {}
    for go in ("down", "deep", "later"):
        reached[go] = [numbers_at(numbers, gone_to(tree, go, place)) for place in numbers]
    return reached


def numbers_at(numbers, places):
    return [numbers[place] for place in places]


def stepped(found, reached, truths):
    gone = {}
    for number in found:
        for other in reached[number]:
            if truths[other]:
                gone[other] = True
    return sorted(gone)


def truths_of(kinds, reached, look):
    return folded(look, look_parts, lambda one, parts: truths_by_parts(kinds, reached, one, parts))


def truths_by_parts(kinds, reached, look, parts):
    if look[0] == "kind":
        return [kind == look[1] for kind in kinds]
    if look[0] == "not":
        return [not truth for truth in parts[0]]
    if look[0] == "both":
        return [first and second for first, second in zip(parts[0], parts[1])]
    if look[0] == "either":
        return [first or second for first, second in zip(parts[0], parts[1])]
    if look[0] == "way":
        return found_from(reached, look[1], parts)
    return [True for kind in kinds]


def found_from(reached, way, looks):
    # From the last step back, so that truths tells from which places the steps behind find anything.
    truths = [True for numbers in reached["down"]]
    for step, look in reversed(list(zip(way, looks))):
        hit = [first and second for first, second in zip(look, truths)]
        truths = [any_hit(hit, numbers) for numbers in reached[step[0]]]
    return truths


def any_hit(hit, numbers):
    return any([hit[number] for number in numbers])
