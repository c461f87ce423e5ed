"""The refusals of the program, one class for each."""


class PathError(ValueError):
    pass


class NoText(PathError):
    pass


class NoShape(PathError):
    pass


class NoSort(PathError):
    pass


class NoRow(PathError):
    pass


class NoName(PathError):
    pass


class Twice(PathError):
    def __init__(self, name):
        self.name = name


class NoRule(PathError):
    def __init__(self, name):
        self.name = name


class TooGreat(PathError):
    def __init__(self, size):
        self.size = size
