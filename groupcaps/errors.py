"""The exceptions of the package; the message of each is the name of its class."""


class CapError(ValueError):
    """Every exception of the package is one of these."""


class NoItem(CapError):
    """item is not the number of an item."""

    def __init__(self, item):
        self.item = item

    def __str__(self):
        return "NoItem"


class NoUnits(CapError):
    """units is not an integer from 0 to the capacity."""

    def __init__(self, units):
        self.units = units

    def __str__(self):
        return "NoUnits"


class NoPlan(CapError):
    """A value is not a plan of the kind that is asked for."""

    def __str__(self):
        return "NoPlan"


class NoFit(CapError):
    """No plan fits, as the contradiction shows."""

    def __init__(self, contradiction):
        self.contradiction = contradiction

    def __str__(self):
        return "NoFit"


class NoTotal(CapError):
    """total is not a possible total."""

    def __init__(self, total):
        self.total = total

    def __str__(self):
        return "NoTotal"


class NoExchange(CapError):
    """A value is not an exchange that leads to a plan that fits."""

    def __str__(self):
        return "NoExchange"


class TooMany(CapError):
    """There would be more than limit of something."""

    def __init__(self, limit):
        self.limit = limit

    def __str__(self):
        return "TooMany"


class NoGains(CapError):
    """A value is not gains."""

    def __str__(self):
        return "NoGains"


class NoGroup(CapError):
    """A value is not a group that can be added."""

    def __str__(self):
        return "NoGroup"


class NoNumber(CapError):
    """number is not the number of a group."""

    def __init__(self, number):
        self.number = number

    def __str__(self):
        return "NoNumber"


class NoLimits(CapError):
    """Two values are not limits of a group."""

    def __str__(self):
        return "NoLimits"


class BadSystem(CapError):
    """A value is not a system; error is the result of system_error."""

    def __init__(self, error):
        self.error = error

    def __str__(self):
        return "BadSystem"


class NothingToUndo(CapError):
    """No operation is in effect."""

    def __str__(self):
        return "NothingToUndo"


class NoMoment(CapError):
    """at is not a moment of a session."""

    def __init__(self, at):
        self.at = at

    def __str__(self):
        return "NoMoment"


class NoOperations(CapError):
    """A value is not a batch of operations."""

    def __str__(self):
        return "NoOperations"


class Failed(CapError):
    """The operation at this index of a batch raises an exception."""

    def __init__(self, index):
        self.index = index

    def __str__(self):
        return "Failed"


class Blocked(CapError):
    """No plan would fit the system of a guarded session."""

    def __init__(self, contradiction):
        self.contradiction = contradiction

    def __str__(self):
        return "Blocked"


class BadText(CapError):
    """A value is not a text of the kind that is read; line is its first wrong line."""

    def __init__(self, line):
        self.line = line

    def __str__(self):
        return "BadText"
