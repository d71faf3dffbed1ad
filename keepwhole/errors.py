"""What is refused: one class for each kind, all straight under KeepError."""


class KeepError(ValueError):
    """Any refusal of this package."""


class NoMake(KeepError):
    """A make is asked for that isn't there."""


class Loop(KeepError):
    """A make would come to rest on itself, by others or straight."""


class BadRow(KeepError):
    """A row of a sheet isn't written as it must be; row is its number."""

    def __init__(self, row):
        self.row = row
