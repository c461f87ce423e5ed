"""Trees and looks, gone through with all that is in them.

Nothing here calls itself: a tree may be one long chain, and looks may nest,
deeper than calls within calls may go.
"""


def tree_parts(tree):
    return list(tree[1])


def look_parts(look):
    if look[0] == "way":
        return [inner for go, inner in look[1]]
    if look[0] in ("not", "both", "either"):
        return list(look[1:])
    return []


def look_with(look, parts):
    # The same look with other parts.
    if look[0] == "way":
        return ("way", tuple([(step[0], part) for step, part in zip(look[1], parts)]))
    if len(parts) == 0:
        return look
    return (look[0],) + tuple(parts)


def all_within(top, parts_of):
    # A thing comes ahead of its parts, and a part with all that is in it ahead of the next part.
    found = []
    waiting = [top]
    while len(waiting) > 0:
        one = waiting.pop()
        found.append(one)
        waiting.extend(list(reversed(parts_of(one))))
    return found


def folded(top, parts_of, make):
    # Gone through from the end, so that the parts of a thing are made ahead of it, its first one last.
    made = []
    for one in reversed(all_within(top, parts_of)):
        parts = []
        for number in range(len(parts_of(one))):
            parts.append(made.pop())
        made.append(make(one, parts))
    return made[0]
