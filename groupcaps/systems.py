"""Systems: gains of items, limits of groups, and the plans for them."""

from groupcaps.errors import NoItem, NoPlan, NoUnits
from groupcaps.limits import LIMIT, MAX_GAIN, MAX_GROUPS, MAX_ITEMS, MAX_STEPS


def is_between(value, least, most):
    """Whether value is an integer from least to most."""
    # Python takes True and False for ints, the document does not.
    if not isinstance(value, int) or isinstance(value, bool):
        return False
    return least <= value <= most


def is_tuple_of(value, length):
    """Whether value is a tuple of this length."""
    return isinstance(value, tuple) and len(value) == length


def is_choice(value, many):
    """Whether value is an ascending tuple of integers from 0 to many - 1."""
    if not isinstance(value, tuple):
        return False
    least = 0
    for number in value:
        if not is_between(number, least, many - 1):
            return False
        least = number + 1
    return True


def is_step(value):
    """Whether value is a step of gains."""
    if not is_tuple_of(value, 2):
        return False
    count, gain = value
    return is_between(count, 1, LIMIT) and is_between(gain, -MAX_GAIN, MAX_GAIN)


def is_gains(value):
    """Whether value is gains."""
    if not isinstance(value, tuple) or len(value) > MAX_STEPS:
        return False
    if not all([is_step(step) for step in value]):
        return False
    if not all([step[1] > later[1] for step, later in zip(value, value[1:])]):
        return False
    return capacity_of_gains(value) <= LIMIT


def capacity_of_gains(gains):
    """The number of units that an item with these gains can have."""
    return sum([count for count, gain in gains])


def are_limits(least, most):
    """Whether these are the limits of a group."""
    return is_between(most, 0, LIMIT) and is_between(least, 0, most)


def is_group(value, many):
    """Whether value is a group in a system with this many items."""
    if not is_tuple_of(value, 3):
        return False
    members, least, most = value
    return is_choice(members, many) and len(members) > 0 and are_limits(least, most)


def are_compatible(members, others):
    """Whether groups with these members are not the same and do not cross."""
    common = len(set(members) & set(others))
    if common == 0:
        return True
    return len(members) != len(others) and common == min(len(members), len(others))


def may_join(value, groups, many):
    """Whether value is a group that can stand beside these groups."""
    if not is_group(value, many):
        return False
    return all([are_compatible(value[0], group[0]) for group in groups])


def has_system_form(value):
    """Whether value has as many items and groups as a system, whatever they are."""
    if not is_tuple_of(value, 2):
        return False
    items, groups = value
    if not isinstance(items, tuple) or not isinstance(groups, tuple):
        return False
    return 1 <= len(items) <= MAX_ITEMS and len(groups) <= MAX_GROUPS


def is_system(value):
    """Whether value is a system."""
    return system_error(value) is None


def system_error(value):
    """None if value is a system, otherwise what is wrong and at which index."""
    if not has_system_form(value):
        return ("system", None)
    items, groups = value
    for index, gains in enumerate(items):
        if not is_gains(gains):
            return ("item", index)
    for index, group in enumerate(groups):
        if not may_join(group, groups[:index], len(items)):
            return ("group", index)
    return None


def gains_of_item(system, item):
    """The gains of the item."""
    items = system[0]
    if not is_between(item, 0, len(items) - 1):
        raise NoItem(item)
    return items[item]


def capacity_of(system, item):
    """The number of units that the item can have."""
    return capacity_of_gains(gains_of_item(system, item))


def gain_of_first(gains, units):
    """The sum of the gains of the first units, as many as units says."""
    total = 0
    rest = units
    for count, gain in gains:
        given = min(count, rest)
        total += given * gain
        rest -= given
    return total


def gain_of_units(system, item, units):
    """The sum of the gains of the first units of the item, as many as units says."""
    gains = gains_of_item(system, item)
    if not is_between(units, 0, capacity_of_gains(gains)):
        raise NoUnits(units)
    return gain_of_first(gains, units)


def is_plan(system, value):
    """Whether value is a plan of the system."""
    items = system[0]
    if not is_tuple_of(value, len(items)):
        return False
    return all([is_between(units, 0, capacity_of_gains(gains)) for units, gains in zip(value, items)])


def fits(system, value):
    """Whether value is a plan of the system that fits."""
    return is_plan(system, value) and len(broken_groups(system, value)) == 0


def broken_groups(system, plan):
    """The groups for which the plan does not fit, each with the limit that it breaks."""
    if not is_plan(system, plan):
        raise NoPlan()
    broken = []
    for number, (members, least, most) in enumerate(system[1]):
        units = sum([plan[item] for item in members])
        if units < least:
            broken.append((number, "least"))
        elif units > most:
            broken.append((number, "most"))
    return tuple(broken)


def gain_of(system, plan):
    """The sum of the gains of all units of the plan."""
    if not is_plan(system, plan):
        raise NoPlan()
    return sum([gain_of_first(gains, units) for gains, units in zip(system[0], plan)])
