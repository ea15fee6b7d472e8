"""Best plans: the greatest gains, of all plans and for each total."""

from groupcaps.spans import best_span, curve_of, first_plan
from groupcaps.systems import gain_of_first
from groupcaps.totals import part_of_all, part_with_total


def greatest_gain(system):
    """The gain of the best plans."""
    low, gain, steps = gain_steps(system)
    return gain + sum([count * each for count, each in steps if each > 0])


def best_plan(system):
    """The first best plan in tuple order."""
    return first_plan(best_span(system), ())


def gain_at(system, total):
    """The gain of the plans that are best for this total."""
    low, gain, steps = curve_of(system, part_with_total(system, total))
    return gain + gain_of_first(steps, total - low)


def with_total(system, total):
    """The system in which only the plans with this total fit."""
    items, groups = system
    everything = tuple(range(len(items)))
    others = [group for group in groups if group[0] != everything]
    return (items, (*others, (everything, total, total)))


def plan_at(system, total):
    """The first plan in tuple order of those that are best for this total."""
    # Only the system itself tells why a total is not possible, so it is asked first.
    part_with_total(system, total)
    return best_plan(with_total(system, total))


def gain_steps(system):
    """The least total, the greatest gain for it, and how much each further unit adds."""
    return curve_of(system, part_of_all(system))
