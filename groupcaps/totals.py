"""Totals: which sums of units are possible, and reasons for it."""

from groupcaps.errors import NoFit, NoTotal
from groupcaps.systems import capacity_of, fits, is_between, is_choice, is_tuple_of


class Part:
    """Items whose units are looked at together: one item, a group, or all items.

    The sums of units that fit are the integers from low to high. The groups of
    reason show that no sum is less than low; the groups and the items of the
    cover show that none is greater than high. The parts of which this one
    consists are inside; a single item has none. number is that of the group,
    or None if the part is no group.
    """

    def __init__(self, members, low, high):
        self.number = None
        self.members = members
        self.low = low
        self.high = high
        self.reason = []
        self.cover_groups = []
        self.cover_items = []
        self.inside = []


def item_part(system, item):
    """The part of a single item."""
    part = Part([item], 0, capacity_of(system, item))
    part.cover_items = [item]
    return part


def joined_part(inside):
    """The part of several parts beside each other, with no limits of its own."""
    members = [item for inner in inside for item in inner.members]
    part = Part(members, sum([inner.low for inner in inside]), sum([inner.high for inner in inside]))
    part.reason = [number for inner in inside for number in inner.reason]
    part.cover_groups = [number for inner in inside for number in inner.cover_groups]
    part.cover_items = [item for inner in inside for item in inner.cover_items]
    part.inside = inside
    return part


def group_part(system, number, inside):
    """The part of a group that consists of these parts."""
    members, least, most = system[1][number]
    part = joined_part(inside)
    part.number = number
    if least > part.low:
        part.low = least
        part.reason = [number]
    if most < part.high:
        part.high = most
        part.cover_groups = [number]
        part.cover_items = []
    if part.low > part.high:
        raise NoFit((reason_of(part), cover_of(part)))
    return part


def part_of_all(system):
    """The part of all items."""
    items, groups = system
    parts = [item_part(system, item) for item in range(len(items))]
    # A group is larger than the groups inside it, so their parts are there before its own.
    for number in sorted(range(len(groups)), key=lambda at: len(groups[at][0])):
        members = groups[number][0]
        inside = [part for part in parts if part.members[0] in members]
        outside = [part for part in parts if part.members[0] not in members]
        parts = [*outside, group_part(system, number, inside)]
    return joined_part(parts)


def reason_of(part):
    """The low reason whose bound is the least sum of the part."""
    return tuple(sorted(part.reason))


def cover_of(part):
    """The cover of the part whose bound is its greatest sum."""
    return (tuple(sorted(part.cover_groups)), tuple(sorted(part.cover_items)))


def spread(lows, highs, units):
    """Numbers from the lows to the highs with this sum, the first ones as great as possible."""
    numbers = []
    rest = units - sum(lows)
    for low, high in zip(lows, highs):
        more = min(rest, high - low)
        rest -= more
        numbers.append(low + more)
    return numbers


def shares_of(part, units):
    """Pairs (item, units of the item) that fit, with this sum from low to high."""
    if len(part.inside) == 0:
        return [(part.members[0], units)]
    sums = spread([inner.low for inner in part.inside], [inner.high for inner in part.inside], units)
    return [share for inner, each in zip(part.inside, sums) for share in shares_of(inner, each)]


def plan_of_shares(shares):
    """The plan in which each item has its share."""
    return tuple([units for item, units in sorted(shares)])


def plan_with_total(part, total):
    """A plan that fits with this total; part is that of all items."""
    return plan_of_shares(shares_of(part, total))


def part_with_total(system, total):
    """The part of all items, if total is a possible total."""
    part = part_of_all(system)
    if not is_between(total, part.low, part.high):
        raise NoTotal(total)
    return part


def totals_of(system):
    """The least and the greatest total of the plans that fit."""
    part = part_of_all(system)
    return (part.low, part.high)


def members_of(system, numbers):
    """The members of the groups with these numbers, one group after the other."""
    return [item for number in numbers for item in system[1][number][0]]


def are_apart(system, value):
    """Whether value is an ascending tuple of groups of which no two have a common member."""
    if not is_choice(value, len(system[1])):
        return False
    members = members_of(system, value)
    return len(set(members)) == len(members)


def low_bound(system, value):
    """The bound of value if it is a low reason, otherwise None."""
    if not are_apart(system, value):
        return None
    return sum([system[1][number][1] for number in value])


def is_cover(system, value):
    """Whether value is a cover."""
    if not is_tuple_of(value, 2):
        return False
    groups, items = value
    if not are_apart(system, groups) or not is_choice(items, len(system[0])):
        return False
    members = members_of(system, groups)
    return not any([item in members for item in items])


def cover_bound(system, cover):
    """The bound of the cover."""
    groups, items = cover
    mosts = sum([system[1][number][2] for number in groups])
    return mosts + sum([capacity_of(system, item) for item in items])


def covers_all(system, cover, items):
    """Whether the cover covers all these items."""
    covered = members_of(system, cover[0]) + list(cover[1])
    return all([item in covered for item in items])


def high_bound(system, value):
    """The bound of value if it is a high reason, otherwise None."""
    if not is_cover(system, value) or not covers_all(system, value, list(range(len(system[0])))):
        return None
    return cover_bound(system, value)


def find_reasons(system):
    """A low and a high reason for the least and the greatest total."""
    part = part_of_all(system)
    return (reason_of(part), cover_of(part))


def is_contradiction(system, value):
    """Whether value is a contradiction."""
    if not is_tuple_of(value, 2):
        return False
    reason, cover = value
    bound = low_bound(system, reason)
    if bound is None or not is_cover(system, cover):
        return False
    return covers_all(system, cover, members_of(system, reason)) and bound > cover_bound(system, cover)


def certificate(system):
    """Plans and reasons for the least and the greatest total, or a contradiction."""
    try:
        part = part_of_all(system)
    except NoFit as why:
        return ("never", why.contradiction)
    least = plan_with_total(part, part.low)
    most = plan_with_total(part, part.high)
    return ("totals", least, reason_of(part), most, cover_of(part))


def reaches(system, plan, bound):
    """Whether plan is a plan that fits and its total is the bound; None is no bound."""
    return bound is not None and fits(system, plan) and sum(plan) == bound


def is_certificate(system, value):
    """Whether value is a certificate of the system."""
    if is_tuple_of(value, 2) and value[0] == "never":
        return is_contradiction(system, value[1])
    if is_tuple_of(value, 5) and value[0] == "totals":
        plan, reason, other, cover = value[1:]
        low = low_bound(system, reason)
        return reaches(system, plan, low) and reaches(system, other, high_bound(system, cover))
    return False
