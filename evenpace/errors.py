"""The errors of the package. Each one has its fields and its own name, the tag, as attributes."""


class PaceError(ValueError):
    """The base of the errors about values that are given or asked for."""

    # The message is the tag alone: writing the fields out would fail for numbers of thousands of digits.
    def __init__(self, tag):
        ValueError.__init__(self, tag)
        self.tag = tag


class NotFound(LookupError):
    """The base of the errors about gates and roads that are not there."""

    def __init__(self, tag):
        LookupError.__init__(self, tag)
        self.tag = tag


class InvalidGate(PaceError):
    """The gate at this position is not a gate."""

    def __init__(self, position):
        PaceError.__init__(self, "InvalidGate")
        self.position = position


class InvalidFactor(PaceError):
    """A road is scaled by positive factors only."""

    def __init__(self, factor):
        PaceError.__init__(self, "InvalidFactor")
        self.factor = factor


class SamePlace(PaceError):
    """A road has two gates at this place."""

    def __init__(self, place):
        PaceError.__init__(self, "SamePlace")
        self.place = place


class CapacityExceeded(PaceError):
    """There is room for this many only."""

    def __init__(self, capacity):
        PaceError.__init__(self, "CapacityExceeded")
        self.capacity = capacity


class NotBarring(PaceError):
    """The gate at this place has no span and so no windows."""

    def __init__(self, place):
        PaceError.__init__(self, "NotBarring")
        self.place = place


class NotCrossed(PaceError):
    """The road has fewer than two barring gates, namely this many."""

    def __init__(self, quantity):
        PaceError.__init__(self, "NotCrossed")
        self.quantity = quantity


class TooWide(PaceError):
    """The road has too many rows of windows at this stage."""

    def __init__(self, stage):
        PaceError.__init__(self, "TooWide")
        self.stage = stage


class TooMany(PaceError):
    """There are too many intervals, namely this many."""

    def __init__(self, quantity):
        PaceError.__init__(self, "TooMany")
        self.quantity = quantity


class Passable(PaceError):
    """Nobody should pass the road, but this walker does."""

    def __init__(self, walker):
        PaceError.__init__(self, "Passable")
        self.walker = walker


class InvalidCount(PaceError):
    """A count is negative."""

    def __init__(self, number):
        PaceError.__init__(self, "InvalidCount")
        self.number = number


class InvalidName(PaceError):
    """A name is not made of 1 to 8 lowercase letters."""

    def __init__(self, name):
        PaceError.__init__(self, "InvalidName")
        self.name = name


class DuplicateName(PaceError):
    """The yard has a road of this name already."""

    def __init__(self, name):
        PaceError.__init__(self, "DuplicateName")
        self.name = name


class InvalidCommand(PaceError):
    """No command has this first element and this number of them."""

    def __init__(self, first):
        PaceError.__init__(self, "InvalidCommand")
        self.first = first


class ParseError(PaceError):
    """The text is wrong at this position."""

    def __init__(self, position):
        PaceError.__init__(self, "ParseError")
        self.position = position


class UnknownGate(NotFound):
    """The road has no gate at this place."""

    def __init__(self, place):
        NotFound.__init__(self, "UnknownGate")
        self.place = place


class UnknownRoad(NotFound):
    """The yard has no road of this name."""

    def __init__(self, name):
        NotFound.__init__(self, "UnknownRoad")
        self.name = name


class ZeroDenominator(ZeroDivisionError):
    """A fraction would have the denominator zero."""

    def __init__(self):
        ZeroDivisionError.__init__(self, "ZeroDenominator")
        self.tag = "ZeroDenominator"


class EmptyHistory(IndexError):
    """There is no step to undo or to redo."""

    def __init__(self):
        IndexError.__init__(self, "EmptyHistory")
        self.tag = "EmptyHistory"
