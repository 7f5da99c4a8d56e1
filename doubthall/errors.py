"""The refusals, all under one base."""


class HallError(ValueError):
    pass


class RowError(HallError):
    def __init__(self, row):
        self.row = row


class NoRow(RowError):
    pass


class TooMany(RowError):
    pass


class Twice(RowError):
    pass


class Headed(RowError):
    pass


class NotTurn(HallError):
    pass


class NoDoubt(HallError):
    pass


class NoReply(HallError):
    pass


class NoAsk(HallError):
    pass


class NoWord(HallError):
    pass


class NotGuess(HallError):
    pass


class NotTold(HallError):
    pass
