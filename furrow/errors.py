"""The refusals: one class for each, all right under FurrowError."""


class FurrowError(ValueError):
    pass


class NoText(FurrowError):
    def __init__(self, line):
        FurrowError.__init__(self, f"no program's text, by row {line}")
        self.line = line


class TooMany(FurrowError):
    pass


class NoValues(FurrowError):
    def __init__(self, ring):
        # The words are made here and the list is copied, so that a change of
        # the asker's list reaches neither.
        FurrowError.__init__(self, f"no values, by the ring {ring!r}")
        self.ring = list(ring)


class NoPlan(FurrowError):
    pass


class NoWidth(FurrowError):
    pass


class NoTurning(FurrowError):
    pass


class BadPlan(FurrowError):
    pass
