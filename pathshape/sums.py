"""One more place: the sorts that a rule and rows of sorts give.

A row of parts is made from its right end, since a part is reckoned with the
masks of the later ones. All that hangs on the parts that are there so far is a
tuple (spot, beside, marked): spot tells the rule and its counts, beside is
their masks put together, marked is 1 where one of them has a mark other than
0, else 0.
"""

from pathshape.masks import MaskBook
from pathshape.rules import all_steps, is_enough, turned


def made_by(rows, rule, sorts, marks=True):
    sums = Sums(rows, [rule], marks)
    for sort in sorted(sorts, key=lambda one: sorts[one]):
        if marks or sort[2] == 0:
            sums.add_part(sort, sorts[sort])
    made = {}
    row = sums.waiting.take()
    while row is not None:
        size = sums.waiting.sizes[row] + 1
        for sort in sums.end_row(row):
            # Rows are taken by size, so the first one that gives a sort is a least one.
            made.setdefault(sort, size)
        row = sums.waiting.take()
    return made


# Things that wait, each with the least size that was told of it. The smallest is taken first, and each
# once, since no size is told that is below the size of a thing that was taken.
class Waiting:
    def __init__(self):
        self.sizes = {}
        self.by_size = {}
        self.smallest = 0

    def tell(self, thing, size):
        if thing in self.sizes and self.sizes[thing] <= size:
            return False
        self.sizes[thing] = size
        self.by_size.setdefault(size, []).append(thing)
        return True

    def take(self):
        while len(self.by_size) > 0:
            if self.smallest not in self.by_size:
                self.smallest = min(self.by_size)
            things = self.by_size[self.smallest]
            thing = things.pop()
            if len(things) == 0:
                self.by_size.pop(self.smallest)
            # A thing of which a lesser size was told later stands here still.
            if self.sizes[thing] == self.smallest:
                return thing
        return None


# All rows of parts that rules let by. Parts are added by size, the least first; rows wait by size, too, and
# each is ended once. So whatever comes to the same is met at its least size first, and needed only then.
class Sums:
    def __init__(self, rows, rules, marks):
        self.book = MaskBook(rows)
        self.marks = marks
        self.waiting = Waiting()
        self.spots = []
        for rule in rules:
            self.waiting.tell((len(self.spots), 0, 0), 0)
            self.spots.extend(spots_of(rule, len(self.spots)))
        # Of each row but an empty one: the row without its first part, and the sort of that part.
        self.came = {}
        # By name: the parts with their sizes.
        self.parts = {}
        # By name and beside: the rows that may take such a part, each with the spot that it comes to.
        self.takers = {}
        # By name and beside: what a part makes of beside and marked, and a least part that does so.
        self.fits = {}

    def add_part(self, sort, size):
        name = sort[0]
        self.parts.setdefault(name, []).append((sort, size))
        for beside in self.takers.get(name, {}):
            fit = self.fit_of(sort, beside)
            if fit not in self.fits[name][beside]:
                self.fits[name][beside][fit] = (sort, size)
                for row, spot in self.takers[name][beside]:
                    self.put(row, spot, fit, sort, size)

    # Gives the sorts that the row gives.
    def end_row(self, row):
        spot = self.spots[row[0]]
        beside = row[1]
        for name, after in spot[2]:
            self.meet(name, beside)
            self.takers[name][beside].append((row, after))
            for fit, part in self.fits[name][beside].items():
                self.put(row, after, fit, part[0], part[1])
        return self.given(spot[0], row) if spot[1] else []

    def meet(self, name, beside):
        if beside in self.takers.setdefault(name, {}):
            return
        self.takers[name][beside] = []
        fits = {}
        for sort, size in self.parts.get(name, []):
            fits.setdefault(self.fit_of(sort, beside), (sort, size))
        self.fits.setdefault(name, {})[beside] = fits

    def fit_of(self, sort, beside):
        mask = self.book.mask(sort[1], sort[2] == 1, sort[3], beside)
        return (beside | mask, 0 if sort[2] == 0 else 1)

    def put(self, row, spot, fit, sort, size):
        marked = row[2] + fit[1]
        if marked < 2:
            longer = (spot, fit[0], marked)
            if self.waiting.tell(longer, self.waiting.sizes[row] + size):
                self.came[longer] = (row, sort)

    def given(self, rule, row):
        if row[2] == 1:
            return [(rule[0], rule[1], 2, row[1])]
        numbers = (0, 1) if self.marks else (0,)
        return [(rule[0], rule[1], mark, row[1]) for mark in numbers]


def spots_of(rule, first):
    # For each counts from the right, numbered from first on: the rule, whether a row may end, and the steps.
    back = turned(rule)
    steps = all_steps(back)
    numbers = {}
    for counts in steps:
        numbers[counts] = first + len(numbers)
    spots = []
    for counts in steps:
        named = [(name, numbers[after]) for name, after in steps[counts]]
        spots.append((rule, is_enough(back[3], counts), named))
    return spots
