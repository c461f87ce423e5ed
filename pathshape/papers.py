"""Papers: dicts of sorts and sizes, by which it is seen what holds in all trees of a shape."""

from pathshape.sums import made_by


def shut(shape, rows, paper, marks=True):
    return all([stands_in(paper, made_by(rows, rule, paper, marks)) for rule in shape[1]])


def stands_in(paper, made):
    return all([sort in paper and paper[sort] <= size for sort, size in made.items()])
