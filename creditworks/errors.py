"""The refusals of the program: one class each, all under CreditError."""


class CreditError(ValueError):
    pass


class NoNumber(CreditError):
    pass


class Overdrawn(CreditError):
    def __init__(self, by):
        CreditError.__init__(self, f"overdrawn by {by}")
        self.by = by


class Empty(CreditError):
    pass


class NoThing(CreditError):
    pass


class Lacking(CreditError):
    pass


class AtTop(CreditError):
    pass


class NoPlace(CreditError):
    pass


class Mixed(CreditError):
    pass


class NoName(CreditError):
    pass


class Twice(CreditError):
    pass


class NotLess(CreditError):
    pass


class NoRow(CreditError):
    pass
