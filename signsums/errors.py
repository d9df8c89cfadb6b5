"""The refusals, each with a class of its own straight under SignError."""


class SignError(ValueError):
    pass


class NoRow(SignError):
    pass


class NoSums(SignError):
    pass


class NoMatch(SignError):
    pass


class TooLong(SignError):
    pass


class NoStep(SignError):
    pass


class NoSigns(SignError):
    pass


class NoChoice(SignError):
    pass


class NoFlat(SignError):
    pass


class NoNote(SignError):
    pass
