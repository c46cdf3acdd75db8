"""The refusals: one class for each, all of them under IdleError."""


class IdleError(ValueError):
    pass


class NoText(IdleError):
    pass


class Unbound(IdleError):
    pass


class NoKind(IdleError):
    pass


class NoThing(IdleError):
    pass


class NoName(IdleError):
    pass


class NoRow(IdleError):
    pass


class Stopped(IdleError):

    def __init__(self, word):
        self.word = word


class Ring(IdleError):

    def __init__(self, names):
        self.names = tuple(names)


class Spent(IdleError):

    def __init__(self, steps):
        self.steps = steps
