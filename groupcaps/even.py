"""Even plans: units spread over the items as evenly as the limits allow."""

from groupcaps.errors import NoPlan
from groupcaps.evidence import plan_after
from groupcaps.limits import LIMIT
from groupcaps.systems import fits
from groupcaps.totals import part_with_total, plan_of_shares, spread


def is_as_even(one, other):
    """Whether one is as even as other."""
    if sum(one) != sum(other):
        return False
    ahead = 0
    for units, others in zip(sorted(one, reverse=True), sorted(other, reverse=True)):
        ahead += units - others
        if ahead > 0:
            return False
    return True


def units_at(part, level):
    """The units of the part if no item has more than level, as far as the limits allow it."""
    if len(part.inside) == 0:
        return min(level, part.high)
    return max(part.low, min(part.high, sum(units_inside(part, level))))


def units_inside(part, level):
    """The units of each part inside the part at this level."""
    return [units_at(inner, level) for inner in part.inside]


def level_for(part, units):
    """The greatest level at which the parts inside have no more than these units."""
    level = 0
    above = LIMIT + 1
    while above - level > 1:
        middle = (level + above) // 2
        if sum(units_inside(part, middle)) <= units:
            level = middle
        else:
            above = middle
    return level


def even_shares(part, units):
    """Pairs (item, units of the item) that fit and are as even as all others with this sum."""
    if len(part.inside) == 0:
        return [(part.members[0], units)]
    level = level_for(part, units)
    # The units that one more level adds are all equally good.
    sums = spread(units_inside(part, level), units_inside(part, level + 1), units)
    return [share for inner, each in zip(part.inside, sums) for share in even_shares(inner, each)]


def even_plan(system, total):
    """A plan with this total that fits and is as even as all others that do."""
    return plan_of_shares(even_shares(part_with_total(system, total), total))


def evening_move(system, plan):
    """A move from an item to one with at least two units fewer, or None if there is none."""
    if not fits(system, plan):
        raise NoPlan()
    for item, units in enumerate(plan):
        for other, fewer in enumerate(plan):
            move = ("move", item, other)
            if units - fewer >= 2 and fits(system, plan_after(plan, move)):
                return move
    return None
