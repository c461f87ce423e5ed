"""Rows of rule names that a rule lets by.

A row is gone through from the left with counts: a tuple that tells, for each
item of the rule, how many of its name there were, so far as anything hangs on
it.
"""


def lets(rule, names):
    return row_chosen(rule, [[name] for name in names]) is not None


def row_chosen(rule, choices):
    # One name out of each of the choices: a row that the rule lets by, or None.
    items = rule[3]
    layers = [{no_counts(rule): None}]
    for names in choices:
        layers.append(next_layer(rule, layers[-1], names))
    for counts in layers[-1]:
        if is_enough(items, counts):
            return row_back(items, layers, counts)
    return None


def next_layer(rule, layer, names):
    # For each counts that may be come to, one way to come there: the counts ahead, and the item's number.
    fitting = [k for k, item in enumerate(rule[3]) if item[0] in names]
    found = {}
    for counts in layer:
        for k in fitting:
            if may_take(rule, counts, k):
                found[taken(rule, counts, k)] = (counts, k)
    return found


def no_counts(rule):
    return tuple([0 for item in rule[3]])


def may_take(rule, counts, k):
    high = rule[3][k][2]
    if high is not None and counts[k] >= high:
        return False
    return rule[2] == "mix" or sum(counts[k + 1:]) == 0 and is_enough(rule[3][:k], counts)


def taken(rule, counts, k):
    low = rule[3][k][1]
    high = rule[3][k][2]
    if rule[2] == "mix":
        # Without a high nothing hangs on how many there are above the low, and so the counts stay few.
        most = low if high is None else high
        return counts[:k] + (min(counts[k] + 1, most),) + counts[k + 1:]
    # In a row an item must show that it was come to; of those ahead of it nothing hangs on more than enough.
    most = max(low, 1) if high is None else high
    return tuple([item[1] for item in rule[3][:k]]) + (min(counts[k] + 1, most),) + counts[k + 1:]


def is_enough(items, counts):
    return all([count >= item[1] for item, count in zip(items, counts)])


def row_back(items, layers, counts):
    names = []
    for layer in reversed(layers[1:]):
        came = layer[counts]
        names.append(items[came[1]][0])
        counts = came[0]
    return list(reversed(names))


def turned(rule):
    # Lets just those rows by that are rows of the rule, told from the right.
    return rule[:3] + (tuple(reversed(rule[3])),)


def all_steps(rule):
    # For each counts that may be come to, no counts first: pairs of a name and the counts come to with it.
    steps = {}
    waiting = [no_counts(rule)]
    while len(waiting) > 0:
        counts = waiting.pop()
        if counts not in steps:
            steps[counts] = [(item[0], taken(rule, counts, k)) for k, item in enumerate(rule[3])
                             if may_take(rule, counts, k)]
            waiting.extend([after for name, after in steps[counts]])
    return steps
