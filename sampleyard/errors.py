"""The refusals: all stand right under YardError, none under another one [0.2]."""


class YardError(ValueError):
    pass


class BadTriangle(YardError):
    pass


class BadThing(YardError):
    pass


class BadFloor(YardError):
    pass


class BadPattern(YardError):
    pass


class NoRow(YardError):
    def __init__(self, at):
        self.at = at
