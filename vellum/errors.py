"""The refusals of the program."""


# Any refusal: who takes this one takes them all.
class VellumError(ValueError):
    pass


class NoRow(VellumError):
    pass


class NoPrices(VellumError):
    pass


class NoSlips(VellumError):
    pass


class NoNotes(VellumError):
    pass


class NoLine(VellumError):
    pass


class NoName(VellumError):
    pass


class TwiceNamed(VellumError):
    pass


class TooMany(VellumError):
    pass
