"""The refusals of the program, each straight under OpenError."""


class OpenError(ValueError):
    pass


class NoNumber(OpenError):
    pass


class NoRule(OpenError):
    pass


class TooMany(OpenError):
    pass


class TooFew(OpenError):
    pass


class NoFit(OpenError):
    pass


class NoText(OpenError):
    pass


class NoRow(OpenError):
    pass


class NoName(OpenError):
    def __init__(self, name):
        OpenError.__init__(self, name)
        self.name = name
