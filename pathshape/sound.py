"""Whether a shape is sound, and how many steps a look has in all."""

from pathshape.errors import NoRule, Twice
from pathshape.nests import all_within, look_parts


def sound(shape):
    for rule in shape[1]:
        refuse_twice(item_names(rule))
    ruled = [rule[0] for rule in shape[1]]
    refuse_without_rule([shape[0]], ruled)
    for rule in shape[1]:
        refuse_without_rule(item_names(rule), ruled)
    return True


def item_names(rule):
    return [item[0] for item in rule[3]]


def refuse_twice(names):
    for number, name in enumerate(names):
        if name in names[:number]:
            raise Twice(name)


def refuse_without_rule(names, ruled):
    for name in names:
        if name not in ruled:
            raise NoRule(name)


def steps_in(look):
    return sum([len(one[1]) for one in all_within(look, look_parts) if one[0] == "way"])
