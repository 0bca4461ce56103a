"""The refusals of the program."""


class BedError(ValueError):
    pass


class BadGarden(BedError):
    pass


class NoPlanting(BedError):
    pass
