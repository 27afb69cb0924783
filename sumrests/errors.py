"""The refusals of the program."""


class RestError(ValueError):
    pass


class BadRound(RestError):
    pass


class BadText(RestError):
    pass
