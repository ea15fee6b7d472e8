"""How the greatest gains grow with the units, and between which limits the best plans are.

A curve (low, gain, steps) tells the greatest gains of a part of a system: low is
the least sum of its units, gain the greatest gain for it, and the steps tell how
much each further unit adds.
"""

from groupcaps.systems import gain_of_first
from groupcaps.totals import part_of_all


class Span:
    """A part whose sum of units is from low to high in each best plan.

    A plan is best if and only if this holds for the span of all items and for
    all spans inside it. The price is that of the group that the part is; a part
    that is no group has none.
    """

    def __init__(self, part, low, high):
        self.number = part.number
        self.members = part.members
        self.low = low
        self.high = high
        self.price = 0
        self.inside = []


def units_from(steps, gain):
    """How many units of these steps gain this much or more."""
    return sum([count for count, each in steps if each >= gain])


def steps_between(steps, first, last):
    """The steps of the units from index first on and before index last."""
    chosen = []
    start = 0
    for count, gain in steps:
        units = min(start + count, last) - max(start, first)
        if units > 0:
            chosen.append((units, gain))
        start += count
    return tuple(chosen)


def gain_of_unit(steps, index):
    """The gain of the unit with this index."""
    return steps_between(steps, index, index + 1)[0][1]


def joined_steps(steps):
    """The steps in falling order of their gains, those with equal gains as one."""
    counts = {}
    for count, gain in steps:
        counts[gain] = counts.get(gain, 0) + count
    return tuple([(counts[gain], gain) for gain in sorted(counts, reverse=True)])


def free_curve(system, part):
    """The curve of the parts inside the part, without the limits of the part itself."""
    curves = [curve_of(system, inner) for inner in part.inside]
    low = sum([curve[0] for curve in curves])
    gain = sum([curve[1] for curve in curves])
    return (low, gain, joined_steps([step for curve in curves for step in curve[2]]))


def curve_of(system, part):
    """The curve of the part."""
    if len(part.inside) == 0:
        return (0, 0, system[0][part.members[0]])
    low, gain, steps = free_curve(system, part)
    before = part.low - low
    return (part.low, gain + gain_of_first(steps, before), steps_between(steps, before, part.high - low))


def price_inside(system, part, price):
    """What the units of the part must pay so that it keeps its limits; outside they pay price."""
    low, gain, steps = free_curve(system, part)
    if low + units_from(steps, price + 1) > part.high:
        return gain_of_unit(steps, part.high - low)
    if low + units_from(steps, price) < part.low:
        return gain_of_unit(steps, part.low - low - 1)
    return price


def item_span(system, part, price):
    """The span of a single item whose units pay price."""
    gains = system[0][part.members[0]]
    # Units that gain what they pay may be given or not.
    return Span(part, units_from(gains, price + 1), units_from(gains, price))


def span_of(system, part, price):
    """The span of a part whose units pay price outside of it."""
    if len(part.inside) == 0:
        return item_span(system, part, price)
    inner_price = price_inside(system, part, price)
    span = Span(part, part.low, part.high)
    span.price = inner_price - price
    # A limit that has a price is met exactly in each best plan.
    if span.price > 0:
        span.low = part.high
    if span.price < 0:
        span.high = part.low
    span.inside = [span_of(system, inner, inner_price) for inner in part.inside]
    return span


def best_span(system):
    """The span of all items."""
    return span_of(system, part_of_all(system), 0)


def holds(span, plan):
    """Whether the plan keeps the limits of the span and of all spans inside it."""
    units = sum([plan[item] for item in span.members])
    return span.low <= units <= span.high and all([holds(inner, plan) for inner in span.inside])


def sums_of(span, first):
    """The least and the greatest sum of the span in best plans that begin with these units."""
    if len(span.inside) == 0:
        item = span.members[0]
        return (first[item], first[item]) if item < len(first) else (span.low, span.high)
    sums = [sums_of(inner, first) for inner in span.inside]
    low = sum([least for least, greatest in sums])
    high = sum([greatest for least, greatest in sums])
    return (max(span.low, low), min(span.high, high))


def item_range(span, item, first):
    """The least and the greatest units of the item in best plans that begin with these units.

    The item is not one of those at the beginning; span is that of all items.
    """
    low = span.low
    high = span.high
    while len(span.inside) > 0:
        sums = [sums_of(inner, first) for inner in span.inside if item not in inner.members]
        span = [inner for inner in span.inside if item in inner.members][0]
        low = max(span.low, low - sum([greatest for least, greatest in sums]))
        high = min(span.high, high - sum([least for least, greatest in sums]))
    return (low, high)


def first_plan(span, first):
    """The first best plan in tuple order that begins with these units."""
    plan = list(first)
    for item in range(len(first), len(span.members)):
        least, greatest = item_range(span, item, plan)
        plan.append(least)
    return tuple(plan)
