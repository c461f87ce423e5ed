"""The sorts of a shape, each with its least size, and examples of them."""

from pathshape.errors import NoSort, TooGreat
from pathshape.nests import folded
from pathshape.sums import Sums

# The most places that a tree which is told may have.
MOST_PLACES = 60


def sorts_of(shape, rows, marks=True):
    growth = Growth(shape, rows, marks)
    growth.first_sort(lambda sort: False)
    return growth.sizes_told()


def example(shape, rows, sort):
    growth = Growth(shape, rows, sort[2] != 0)
    if growth.first_sort(lambda one: one == sort) is None:
        raise NoSort("no tree of the shape has this sort")
    return growth.example_of(sort)


# The sorts of a shape, come to by size, the least first. They wait among the rows of parts that give them.
class Growth:
    def __init__(self, shape, rows, marks):
        self.sums = Sums(rows, shape[1], marks)
        # Of each sort, the row of parts that gives it.
        self.given_by = {}

    # The first sort come to that is meant, and so one of the least size; None where there is none.
    def first_sort(self, is_meant):
        thing = self.sums.waiting.take()
        while thing is not None:
            if not is_sort(thing):
                self.end_row(thing)
            elif is_meant(thing):
                return thing
            else:
                self.sums.add_part(thing, self.size_of(thing))
            thing = self.sums.waiting.take()
        return None

    def end_row(self, row):
        size = self.size_of(row) + 1
        for sort in self.sums.end_row(row):
            if self.sums.waiting.tell(sort, size):
                self.given_by[sort] = row

    def size_of(self, thing):
        return self.sums.waiting.sizes[thing]

    def sizes_told(self):
        return dict([(sort, self.size_of(sort)) for sort in self.given_by])

    # Of a sort that was come to.
    def example_of(self, sort):
        if self.size_of(sort) > MOST_PLACES:
            raise TooGreat(self.size_of(sort))
        tree = folded(sort,
                      lambda one: self.parts_of(one),
                      lambda one, parts: (one[1], tuple(parts)))
        return (tree, self.marked_place(sort))

    def parts_of(self, sort):
        parts = []
        row = self.given_by[sort]
        while row in self.sums.came:
            came = self.sums.came[row]
            parts.append(came[1])
            row = came[0]
        return parts

    def marked_place(self, sort):
        if sort[2] == 0:
            return None
        place = ()
        while sort[2] == 2:
            parts = self.parts_of(sort)
            k = [part[2] != 0 for part in parts].index(True)
            place = place + (k,)
            sort = parts[k]
        return place


def is_sort(thing):
    # A sort begins with its name, a row of parts with a number.
    return isinstance(thing[0], str)
