"""The refusals, each a class of its own straight under ClockError."""


class ClockError(ValueError):
    pass


class NoClock(ClockError):
    pass


class NoNumber(ClockError):
    pass


class NoPlace(ClockError):
    pass


class NoRow(ClockError):
    pass


class NoClocks(ClockError):
    def __init__(self, number):
        self.number = number


class NoText(ClockError):
    def __init__(self, row):
        self.row = row


class TooGreat(ClockError):
    def __init__(self, many, most):
        self.many = many
        self.most = most
