"""The errors of this package.

Each keeps what it is made with, any values, as fields. None hands a text to
its base: Python shows what it was made with anyway, and no value is read then.
"""


class HoldError(ValueError):
    """What is told is not as it must be, or does not go."""


class BadMode(HoldError):
    """What is told as a mode is no mode of the rules."""

    def __init__(self, mode):
        self.mode = mode


class BadText(HoldError):
    """A text cannot be read: number is that of its first wrong piece, None if it is no string."""

    def __init__(self, number):
        self.number = number


class BadYard(HoldError):
    """A yard cannot be made: word tells of which part, error what is wrong with it."""

    def __init__(self, word, error):
        self.word = word
        self.error = error


class Barred(HoldError):
    """A hold on the thing does not go with that of the other holder."""

    def __init__(self, thing, other):
        self.thing = thing
        self.other = other


class Full(HoldError):
    """As many deeds are in effect as may be."""


class NothingToUndo(HoldError):
    """No deed is in effect."""


class NoAct(LookupError):
    """There is no such act."""

    def __init__(self, act):
        self.act = act


class NoHold(LookupError):
    """The holder has no hold."""

    def __init__(self, holder):
        self.holder = holder


class NoHolder(LookupError):
    """There is no such holder."""

    def __init__(self, holder):
        self.holder = holder


class NoThing(LookupError):
    """There is no such thing."""

    def __init__(self, thing):
        self.thing = thing
