"""The exceptions of the package."""


class CapError(ValueError):
    """Every exception of the package is one of these."""


class NoItem(CapError):
    """item is not the number of an item."""

    def __init__(self, item):
        self.item = item


class NoUnits(CapError):
    """units is not an integer from 0 to the capacity."""

    def __init__(self, units):
        self.units = units


class NoPlan(CapError):
    """A value is not a plan of the kind that is asked for."""


class NoFit(CapError):
    """No plan fits, as the contradiction shows."""

    def __init__(self, contradiction):
        self.contradiction = contradiction


class NoTotal(CapError):
    """total is not a possible total."""

    def __init__(self, total):
        self.total = total


class NoExchange(CapError):
    """A value is not an exchange that leads to a plan that fits."""


class TooMany(CapError):
    """There would be more than limit of something."""

    def __init__(self, limit):
        self.limit = limit


class NoGains(CapError):
    """A value is not gains."""


class NoGroup(CapError):
    """A value is not a group that can be added."""


class NoNumber(CapError):
    """number is not the number of a group."""

    def __init__(self, number):
        self.number = number


class NoLimits(CapError):
    """Two values are not limits of a group."""


class BadSystem(CapError):
    """A value is not a system; error is the result of system_error."""

    def __init__(self, error):
        self.error = error


class NothingToUndo(CapError):
    """No operation is in effect."""


class NoMoment(CapError):
    """at is not a moment of a session."""

    def __init__(self, at):
        self.at = at


class NoOperations(CapError):
    """A value is not a batch of operations."""


class Failed(CapError):
    """The operation at this index of a batch raises an exception."""

    def __init__(self, index):
        self.index = index


class Blocked(CapError):
    """No plan would fit the system of a guarded session."""

    def __init__(self, contradiction):
        self.contradiction = contradiction


class BadText(CapError):
    """A value is not a text of the kind that is read; line is its first wrong line."""

    def __init__(self, line):
        self.line = line
