"""The refusals: each stands under LampError, and none under another one."""


class LampError(ValueError):
    pass


class NoText(LampError):
    def __init__(self, row, word):
        LampError.__init__(self, f"the text is not as told at row {row}, word {word}")
        self.row = row
        self.word = word


class NoWay(LampError):
    def __init__(self, name):
        LampError.__init__(self, f"no way is called {name!r}")
        self.name = name


class Never(LampError):
    def __init__(self, way):
        LampError.__init__(self, f"the way {way!r} is never free")
        self.way = way


class Short(LampError):
    def __init__(self, way, at):
        LampError.__init__(self, f"the way {way!r} has too few turns at {at}")
        self.way = way
        self.at = at


class Clash(LampError):
    def __init__(self, way, other, at):
        LampError.__init__(self, f"the ways {way!r} and {other!r} come too near one another at {at}")
        self.way = way
        self.other = other
        self.at = at


class TooMany(LampError):
    pass


class NoRow(LampError):
    pass


class NoName(LampError):
    def __init__(self, name):
        LampError.__init__(self, f"the book has nothing called {name!r}")
        self.name = name
