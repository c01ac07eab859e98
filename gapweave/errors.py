"""The refusals, one class for each."""


class WeaveError(ValueError):
    pass


class NoPrices(WeaveError):
    pass


class NoLaying(WeaveError):
    pass


class NoManner(WeaveError):
    pass


class NoPlace(WeaveError):
    pass


class NoBlock(WeaveError):
    pass


class NoRow(WeaveError):
    pass


class NoTree(WeaveError):
    pass


class NoMost(WeaveError):
    pass


class NoSign(WeaveError):
    def __init__(self, row, place):
        WeaveError.__init__(self, f"no sign that may stand there: row {row}, place {place}")
        self.row = row
        self.place = place


class NoNote(WeaveError):
    def __init__(self, at):
        WeaveError.__init__(self, f"no note that can be followed: number {at}")
        self.at = at


class NoText(WeaveError):
    def __init__(self, line):
        WeaveError.__init__(self, f"not written as it should be: row {line}")
        self.line = line
