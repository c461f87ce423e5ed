"""Rows of rule names that a rule lets by.

A row is gone through from the left with counts: a tuple that tells, for each
item of the rule, how many of its name there were.
"""


def lets(rule, names):
    return row_chosen(rule, [[name] for name in names]) is not None


def row_chosen(rule, choices):
    # One name out of each of the choices: a row that the rule lets by, or None.
    items = rule[3]
    layers = [{tuple([0 for item in items]): None}]
    for names in choices:
        layers.append(next_layer(rule, layers[-1], names))
    for counts in layers[-1]:
        if is_enough(items, counts):
            return row_back(items, layers, counts)
    return None


def next_layer(rule, layer, names):
    # For each counts that may be come to, one way to come there: the counts ahead, and the item's number.
    fitting = [k for k, item in enumerate(rule[3]) if item[0] in names]
    found = {}
    for counts in layer:
        for k in fitting:
            if may_take(rule, counts, k):
                found[taken(rule[3][k], counts, k)] = (counts, k)
    return found


def may_take(rule, counts, k):
    high = rule[3][k][2]
    if high is not None and counts[k] >= high:
        return False
    return rule[2] == "mix" or sum(counts[k + 1:]) == 0


def taken(item, counts, k):
    # Without a high nothing hangs on how many there are above these, and so the counts stay few.
    most = max(item[1], 1) if item[2] is None else item[2]
    return counts[:k] + (min(counts[k] + 1, most),) + counts[k + 1:]


def is_enough(items, counts):
    return all([count >= item[1] for item, count in zip(items, counts)])


def row_back(items, layers, counts):
    names = []
    for layer in reversed(layers[1:]):
        came = layer[counts]
        names.append(items[came[1]][0])
        counts = came[0]
    return list(reversed(names))
