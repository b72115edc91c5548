"""The refusals of the program: each stands under PactError alone."""


class PactError(ValueError):
    pass


class NoText(PactError):
    pass


class NoRoad(PactError):
    pass


class TooMany(PactError):
    pass
