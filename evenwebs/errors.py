"""The refusals of the program, one class for each."""


class WebError(ValueError):
    pass


class NoWeb(WebError):
    pass


class NoText(WebError):
    pass


class NoNumbers(WebError):
    pass


class NoField(WebError):
    pass


class NoThing(WebError):
    pass


class NoSquare(WebError):
    pass


class NoPlaces(WebError):
    pass


class TooMany(WebError):
    pass


class NoName(WebError):
    pass


class NoDeed(WebError):
    pass


class NoRow(WebError):
    pass
