"""The refusals. Each is told by its class and its field; its own words are only that field's value."""


class LabelError(ValueError):
    pass


class NoPlan(LabelError):
    def __init__(self, line):
        self.line = line


class NotTwo(LabelError):
    def __init__(self, name):
        self.name = name


class Twice(LabelError):
    def __init__(self, name):
        self.name = name


class NoName(LabelError):
    def __init__(self, name):
        self.name = name


class NoCell(LabelError):
    def __init__(self, cell):
        self.cell = cell


class TooMany(LabelError):
    pass


class NoDrawing(LabelError):
    pass


class NoDeed(LabelError):
    pass
