"""All best plans: their ranges, their order, and ways between them."""

from groupcaps.errors import NoFit, NoItem, NoPlan, TooMany
from groupcaps.evidence import plan_after
from groupcaps.limits import LISTED
from groupcaps.spans import best_span, first_plan, holds, item_range
from groupcaps.systems import is_between, is_plan


def unit_range(system, item):
    """The least and the greatest units of the item in any best plan."""
    if not is_between(item, 0, len(system[0]) - 1):
        raise NoItem(item)
    return item_range(best_span(system), item, ())


def span_if_any(system):
    """The span of all items, or None if no plan fits."""
    try:
        return best_span(system)
    except NoFit:
        return None


def is_best(system, span, value):
    """Whether value is a best plan; span is the result of span_if_any."""
    return span is not None and is_plan(system, value) and holds(span, value)


def next_best(system, plan):
    """The best plan that follows plan in tuple order, or None if it is the last one."""
    span = span_if_any(system)
    if not is_best(system, span, plan):
        raise NoPlan()
    for item in reversed(range(len(plan))):
        first = plan[:item]
        least, greatest = item_range(span, item, first)
        if plan[item] < greatest:
            return first_plan(span, (*first, plan[item] + 1))
    return None


def walk_span(span, first):
    """Yields the best plans that begin with these units, in tuple order."""
    if len(first) == len(span.members):
        yield first
        return
    least, greatest = item_range(span, len(first), first)
    for units in range(least, greatest + 1):
        longer = (*first, units)
        yield from walk_span(span, longer)


def walk_best(system):
    """Yields the best plans in tuple order; none if no plan fits."""
    span = span_if_any(system)
    if span is not None:
        yield from walk_span(span, ())


def count_best(system):
    """The number of best plans, at most LISTED."""
    span = best_span(system)
    many = 0
    for plan in walk_span(span, ()):
        many += 1
        if many > LISTED:
            raise TooMany(LISTED)
    return many


def distance(one, other):
    """How many exchanges lead from one plan to the other, and no fewer."""
    more = sum([end - start for start, end in zip(one, other) if end > start])
    less = sum([start - end for start, end in zip(one, other) if end < start])
    return max(more, less)


def nearing_exchanges(plan, last):
    """The exchanges that lead from plan to one whose distance from last is less."""
    less = [item for item in range(len(plan)) if plan[item] > last[item]]
    more = [item for item in range(len(plan)) if plan[item] < last[item]]
    exchanges = [("move", item, other) for item in less for other in more]
    if sum(plan) > sum(last):
        exchanges.extend([("less", item) for item in less])
    if sum(plan) < sum(last):
        exchanges.extend([("more", item) for item in more])
    return exchanges


def next_on_way(span, plan, last):
    """A best plan to which one exchange leads, and which is nearer to last."""
    nearer = [plan_after(plan, exchange) for exchange in nearing_exchanges(plan, last)]
    return [after for after in nearer if holds(span, after)][0]


def way_between(system, first, last):
    """Best plans from first to last, each one exchange behind the one before, as few as possible."""
    span = span_if_any(system)
    if not is_best(system, span, first) or not is_best(system, span, last):
        raise NoPlan()
    if distance(first, last) > LISTED:
        raise TooMany(LISTED)
    way = [first]
    while way[-1] != last:
        way.append(next_on_way(span, way[-1], last))
    return tuple(way)


def is_way(system, first, last, value):
    """Whether value is best plans from first to last, each one exchange behind the one before."""
    span = span_if_any(system)
    if not is_best(system, span, first) or not is_best(system, span, last):
        raise NoPlan()
    if not isinstance(value, tuple) or len(value) == 0:
        return False
    if not all([is_best(system, span, plan) for plan in value]):
        return False
    if value[0] != first or value[-1] != last:
        return False
    return all([distance(plan, after) == 1 for plan, after in zip(value, value[1:])])
