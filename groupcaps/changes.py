"""Changed systems, and what the limits of their groups are worth."""

from groupcaps.best import greatest_gain
from groupcaps.errors import NoFit, NoGains, NoGroup, NoItem, NoLimits, NoNumber, TooMany
from groupcaps.limits import MAX_GROUPS, MAX_ITEMS
from groupcaps.systems import are_limits, capacity_of_gains, is_between, is_gains, may_join
from groupcaps.totals import totals_of


def replaced(values, index, value):
    """The tuple with this value at this index."""
    return values[:index] + (value,) + values[index + 1:]


def is_number(system, value):
    """Whether value is the number of a group."""
    return is_between(value, 0, len(system[1]) - 1)


def with_gains(system, item, gains):
    """The system with other gains of the item."""
    items, groups = system
    if not is_between(item, 0, len(items) - 1):
        raise NoItem(item)
    if not is_gains(gains):
        raise NoGains()
    return (replaced(items, item, gains), groups)


def with_limits(system, number, least, most):
    """The system with other limits of the group."""
    items, groups = system
    if not is_number(system, number):
        raise NoNumber(number)
    if not are_limits(least, most):
        raise NoLimits()
    return (items, replaced(groups, number, (groups[number][0], least, most)))


def with_group(system, group):
    """The system with one more group at the end."""
    items, groups = system
    if not may_join(group, groups, len(items)):
        raise NoGroup()
    if len(groups) == MAX_GROUPS:
        raise TooMany(MAX_GROUPS)
    return (items, (*groups, group))


def without_group(system, number):
    """The system without the group; greater numbers decrease by 1."""
    items, groups = system
    if not is_number(system, number):
        raise NoNumber(number)
    return (items, groups[:number] + groups[number + 1:])


def with_item(system, gains):
    """The system with one more item at the end, which is a member of no group."""
    items, groups = system
    if not is_gains(gains):
        raise NoGains()
    if len(items) == MAX_ITEMS:
        raise TooMany(MAX_ITEMS)
    return ((*items, gains), groups)


# By the names of the operations of sessions.
CHANGES = {
    "add_group": with_group,
    "add_item": with_item,
    "remove_group": without_group,
    "set_gains": with_gains,
    "set_limits": with_limits,
}


def changed(system, name, arguments):
    """The system after the operation with this name."""
    change = CHANGES[name]
    return change(system, *arguments)


def joined(*systems):
    """The system with all items and groups of these systems, in order."""
    items = []
    groups = []
    for system in systems:
        before = len(items)
        for members, least, most in system[1]:
            groups.append((tuple([before + item for item in members]), least, most))
        items.extend(system[0])
    if len(items) > MAX_ITEMS:
        raise TooMany(MAX_ITEMS)
    if len(groups) > MAX_GROUPS:
        raise TooMany(MAX_GROUPS)
    return (tuple(items), tuple(groups))


def with_equal_gains(system, members, gain):
    """The system in which each unit of the members gains this much, and all other units nothing."""
    items = []
    for item, gains in enumerate(system[0]):
        capacity = capacity_of_gains(gains)
        each = gain if item in members else 0
        items.append(((capacity, each),) if capacity > 0 else ())
    return (tuple(items), system[1])


def is_idle(system, number):
    """Whether the limits of the group hold in each plan in which those of all others do."""
    members, least, most = system[1][number]
    others = without_group(system, number)
    # If only the units of the members gain, the greatest gain is that of their sum.
    low = -greatest_gain(with_equal_gains(others, members, -1))
    high = greatest_gain(with_equal_gains(others, members, 1))
    return least <= low and high <= most


def idle_groups(system):
    """The groups whose limits hold for each plan for which the limits of all other groups hold."""
    # Plans may fit without one of the groups even if none fits the system, so that is asked first.
    totals_of(system)
    return tuple([number for number in range(len(system[1])) if is_idle(system, number)])


def gain_with_limits(system, number, least, most):
    """The greatest gain with these limits of the group, or None if there is none."""
    try:
        return greatest_gain(with_limits(system, number, least, most))
    except (NoLimits, NoFit):
        return None


def worth_of(system, number):
    """How much the greatest gain changes if the least, or the most, is 1 less and 1 more."""
    if not is_number(system, number):
        raise NoNumber(number)
    gain = greatest_gain(system)
    members, least, most = system[1][number]
    limits = ((least - 1, most), (least + 1, most), (least, most - 1), (least, most + 1))
    others = [gain_with_limits(system, number, low, high) for low, high in limits]
    return tuple([None if other is None else other - gain for other in others])
