"""The desk: shapes, ways and trees kept by names, and asked by rows of words."""

from pathshape.errors import NoName, NoRow, NoText, TooGreat
from pathshape.marking import has
from pathshape.questions import always, apart, can, finds_all, kinds_found, same
from pathshape.reader import read_shape, read_tree, read_way
from pathshape.shorter import shorter
from pathshape.sound import sound, steps_in
from pathshape.walk import finds
from pathshape.words import is_name
from pathshape.writer import show_tree, show_way

MOST_STEPS = 3

MOST_RULES = 5

# The sorts of things that are kept; each is also the first word of the row that keeps one.
SORTS = ("shape", "way", "tree")

# For each row that asks, the sorts of things that it names.
ASKED = {"has": ("shape", "tree"),
         "found": ("way", "tree"),
         "can": ("shape", "way"),
         "always": ("shape", "way"),
         "all": ("shape", "way", "way"),
         "apart": ("shape", "way", "way"),
         "same": ("shape", "way", "way"),
         "kinds": ("shape", "way"),
         "shorter": ("shape", "way")}


class Desk:
    def __init__(self):
        # Things by their sort and name.
        self.kept = {}

    def say(self, row):
        words = row.split(" ") if isinstance(row, str) else [""]
        if words[0] in SORTS and len(words) > 2:
            return self.keep(words[0], words[1], " ".join(words[2:]))
        if words[0] in ASKED and len(words) == 1 + len(ASKED[words[0]]):
            return answer(words[0], self.things(ASKED[words[0]], words[1:]))
        raise NoRow("no row that a desk can be told")

    def keep(self, sort, name, text):
        if not is_name(name):
            raise NoName("no name")
        self.kept[(sort, name)] = thing_read(sort, text)
        return "ok"

    def things(self, sorts, names):
        # What is no name can't be a name by which a thing is kept.
        for sort, name in zip(sorts, names):
            if (sort, name) not in self.kept:
                raise NoName("nothing is kept by this name")
        return [self.kept[(sort, name)] for sort, name in zip(sorts, names)]


def thing_read(sort, text):
    if sort == "shape":
        return sound_shape(text)
    if sort == "way":
        return short_way(text)
    return read_tree(text)


def sound_shape(text):
    shape = read_shape(text)
    if len(shape[1]) > MOST_RULES:
        raise NoText("too many rules")
    sound(shape)
    return shape


def short_way(text):
    way = read_way(text)
    if steps_in(("way", way)) > MOST_STEPS:
        raise NoText("too many steps")
    return way


def answer(word, things):
    if word == "has":
        return "yes" if has(things[0], things[1]) else "no"
    if word == "found":
        return found_text(finds(things[1], things[0]))
    if word == "kinds":
        return " ".join(kinds_found(things[0], things[1]))
    if word == "shorter":
        return show_way(shorter(things[0], things[1]))
    return question_text(word, things)


def found_text(places):
    return " ".join([str(len(places))] + [place_text(place) for place in places])


def place_text(place):
    return ".".join([str(k) for k in place])


def question_text(word, things):
    try:
        told = asked(word, things)
    except TooGreat as error:
        return "great " + str(error.size)
    return " ".join([told[0]] + [show_tree(tree) for tree in told[1:2]])


def asked(word, things):
    if word == "can":
        return can(things[0], things[1])
    if word == "always":
        return always(things[0], things[1])
    if word == "all":
        return finds_all(things[0], things[1], things[2])
    if word == "apart":
        return apart(things[0], things[1], things[2])
    return same(things[0], things[1], things[2])
