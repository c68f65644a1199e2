"""The refusals, one class for each, all beneath WorksError."""


class WorksError(ValueError):
    pass


class BadRow(WorksError):
    def __init__(self, row):
        WorksError.__init__(self, f"row {row} does not tell a part")
        self.row = row


class NoPart(WorksError):
    def __init__(self, row):
        WorksError.__init__(self, f"row {row} has a line from no part that gives one")
        self.row = row


class TooMany(WorksError):
    pass


class Ring(WorksError):
    pass


class BadLag(WorksError):
    pass
