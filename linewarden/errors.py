"""The refusals of the program, one class for each."""


class WardenError(ValueError):
    pass


class NoWord(WardenError):
    pass


class NoLetter(WardenError):
    pass


class Early(WardenError):
    pass


class NoDeed(WardenError):
    pass


class Unawaited(WardenError):
    pass


class NoHouse(WardenError):
    pass


class NoPlace(WardenError):
    pass


class TooMany(WardenError):
    pass


class NoRow(WardenError):
    pass
