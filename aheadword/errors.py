"""The refusals. Each one stands straight under AheadError, none under another."""


class AheadError(ValueError):
    pass


class NoWord(AheadError):
    pass


class Twice(AheadError):
    pass


class Absent(AheadError):
    pass


class NoSign(AheadError):
    pass


class NoChoice(AheadError):
    pass


class Beside(AheadError):
    pass


class NoText(AheadError):
    def __init__(self, row):
        AheadError.__init__(self, f"text {row} is not as told")
        self.row = row


class NoRow(AheadError):
    pass
