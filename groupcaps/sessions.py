"""Sessions: systems that change by operations, which can be undone."""

from groupcaps.best import best_plan, greatest_gain
from groupcaps.changes import changed
from groupcaps.errors import BadSystem, Blocked, CapError, Failed, NoFit, NoMoment
from groupcaps.errors import NoOperations, NoPlan, NothingToUndo, TooMany
from groupcaps.limits import LOG_SIZE, MAX_BATCH, MAX_OPERATIONS
from groupcaps.systems import fits, is_between, system_error
from groupcaps.texts import parse_system
from groupcaps.totals import certificate, totals_of

# The names of the operations, each with the number of its arguments.
OPERATIONS = (("add_group", 1), ("add_item", 1), ("remove_group", 1), ("set_gains", 2), ("set_limits", 3))


def is_operation(value):
    """Whether value is the name of an operation with as many arguments as it takes."""
    return isinstance(value, tuple) and len(value) > 0 and (value[0], len(value) - 1) in OPERATIONS


def is_batch(value):
    """Whether value is a batch of operations."""
    if not isinstance(value, (list, tuple)) or len(value) > MAX_BATCH:
        return False
    return all([is_operation(operation) for operation in value])


def gain_if_any(system):
    """The gain of the best plans, or None if no plan fits."""
    try:
        return greatest_gain(system)
    except NoFit:
        return None


def summary(system, gain):
    """How many items and groups there are, and the greatest gain; None is no gain."""
    items, groups = system
    word = "none" if gain is None else str(gain)
    return f"{len(items)} items, {len(groups)} groups, gain {word}"


class Session:
    """A system that changes by operations.

    earlier holds the systems before each of the operations in effect. greatest is
    the greatest gain of the current system, and chosen the plan that was assigned
    last, whether it fits or not.
    """

    # A class value cannot be taken from MAX_OPERATIONS, so it is written out.
    LIMIT = 60
    PREFIX = ""

    def __init__(self, data, *, limit=MAX_OPERATIONS):
        error = system_error(data)
        if error is not None:
            raise BadSystem(error)
        self.limit = limit
        self.system = data
        self.greatest = gain_if_any(data)
        self.earlier = []
        self.entries = []
        self.chosen = None

    @classmethod
    def begun(cls, data, limit):
        """A new session of the same class."""
        return cls(data, limit=limit)

    @classmethod
    def from_text(cls, value):
        """A session with the system of this text."""
        return cls(parse_system(value))

    @staticmethod
    def operation_names():
        """The names of the operations."""
        return tuple([name for name, many in OPERATIONS])

    def admit(self, system):
        """Raises an exception if the session must not have this system; this kind may have any."""

    def record(self, entries):
        """Adds these entries to the log."""
        self.entries = [*self.entries, *entries][-LOG_SIZE:]

    def advance(self, systems):
        """Makes each of these systems the current one, in order."""
        for system in systems:
            self.earlier.append(self.system)
            self.system = system
        self.greatest = gain_if_any(self.system)

    def after(self, system, many, operation):
        """The system after the operation, if so many operations are in effect before it."""
        if many >= self.limit:
            raise TooMany(self.limit)
        result = changed(system, operation[0], operation[1:])
        self.admit(result)
        return result

    def perform(self, operation):
        """Performs one operation."""
        try:
            system = self.after(self.system, len(self.earlier), operation)
        except CapError as why:
            self.record([(operation[0], str(why))])
            raise
        self.record([(operation[0], "done")])
        self.advance([system])

    def set_gains(self, item, gains):
        """Replaces the gains of the item."""
        self.perform(("set_gains", item, gains))

    def set_limits(self, number, least, most):
        """Replaces the limits of the group."""
        self.perform(("set_limits", number, least, most))

    def add_group(self, group):
        """Adds a group at the end."""
        self.perform(("add_group", group))

    def remove_group(self, number):
        """Removes the group; greater numbers decrease by 1."""
        self.perform(("remove_group", number))

    def add_item(self, gains):
        """Adds an item that is a member of no group."""
        self.perform(("add_item", gains))

    def undo(self):
        """Reverts the last operation that is in effect."""
        if len(self.earlier) == 0:
            self.record([("undo", "NothingToUndo")])
            raise NothingToUndo()
        self.record([("undo", "done")])
        self.system = self.earlier.pop()
        self.greatest = gain_if_any(self.system)

    def attempt(self, operations):
        """The systems after each of the operations, and None.

        If an operation fails, the systems end before it, and the name of the class of
        its exception stands in the place of None. The session stays as it is.
        """
        if not is_batch(operations):
            raise NoOperations()
        systems = [self.system]
        for index, operation in enumerate(operations):
            try:
                systems.append(self.after(systems[-1], len(self.earlier) + index, operation))
            except CapError as why:
                return (systems[1:], str(why))
        return (systems[1:], None)

    def apply_all(self, operations):
        """Performs all operations in order, or none."""
        systems, outcome = self.attempt(operations)
        words = [operation[0] for operation in operations]
        index = len(systems)
        if outcome is not None:
            self.record([(word, "reverted") for word in words[:index]])
            self.record([(words[index], outcome)])
            raise Failed(index)
        self.record([(word, "done") for word in words])
        self.advance(systems)

    def preview(self, operations):
        """The certificate of the system after the operations, which are not performed."""
        systems, outcome = self.attempt(operations)
        if outcome is not None:
            raise Failed(len(systems))
        return certificate([self.system, *systems][-1])

    def log(self):
        """The last entries of the log, the latest one last."""
        return tuple(self.entries)

    def data(self, *, at=None):
        """The system."""
        if at is None:
            return self.system
        if not is_between(at, 0, len(self.earlier)):
            raise NoMoment(at)
        return [*self.earlier, self.system][at]

    def totals(self, *, at=None):
        """The least and the greatest total of the plans that fit."""
        return totals_of(self.data(at=at))

    def best(self, *, at=None):
        """The first best plan in tuple order."""
        return best_plan(self.data(at=at))

    def clone(self):
        """An independent session with the same state."""
        first, *later = [*self.earlier, self.system]
        other = self.begun(first, self.limit)
        other.advance(later)
        other.entries = list(self.entries)
        other.chosen = self.chosen
        return other

    @property
    def gain(self):
        """The greatest gain of the current system, or None if no plan fits."""
        return self.greatest

    @property
    def plan(self):
        """The plan that was assigned last if it fits the current system, otherwise None."""
        return self.chosen if fits(self.system, self.chosen) else None

    @plan.setter
    def plan(self, value):
        """Assigns a plan that fits."""
        if not fits(self.system, value):
            raise NoPlan()
        self.chosen = value

    def choose(self, value):
        """Assigns the value to the plan."""
        self.plan = value

    def __len__(self):
        return len(self.earlier)

    def __str__(self):
        return f"{self.PREFIX}{summary(self.system, self.gain)}"

    def __eq__(self, other):
        return isinstance(other, Session) and self.system == other.system and self.PREFIX == other.PREFIX


class GuardedSession(Session):
    """A session whose system always has a plan that fits."""

    PREFIX = "guarded, "

    def __init__(self, data, *, limit=MAX_OPERATIONS):
        super().__init__(data, limit=limit)
        self.admit(data)

    def admit(self, system):
        """Raises an exception if no plan fits."""
        try:
            totals_of(system)
        except NoFit as why:
            raise Blocked(why.contradiction) from why
