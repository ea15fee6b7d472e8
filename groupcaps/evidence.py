"""Evidence: prices that show that a plan is best, and exchanges that gain."""

from groupcaps.errors import NoExchange, NoPlan
from groupcaps.spans import best_span
from groupcaps.systems import fits, gain_of, is_between, is_tuple_of

# The greatest number of 30 digits.
MAX_PRICE = 10 ** 30 - 1


def is_prices(system, value):
    """Whether value is prices of the system."""
    if not is_tuple_of(value, len(system[1])):
        return False
    return all([is_between(price, -MAX_PRICE, MAX_PRICE) for price in value])


def price_of_item(system, prices, item):
    """The sum of the prices of the groups of which the item is a member."""
    return sum([price for price, group in zip(prices, system[1]) if item in group[0]])


def gain_above(gains, price):
    """The greatest gain of units of an item if each of them pays the price."""
    return sum([count * (gain - price) for count, gain in gains if gain > price])


def price_bound(system, value):
    """The bound of value if it is prices, otherwise None."""
    if not is_prices(system, value):
        return None
    bound = 0
    for item, gains in enumerate(system[0]):
        bound += gain_above(gains, price_of_item(system, value, item))
    for price, (members, least, most) in zip(value, system[1]):
        bound += price * (most if price > 0 else least)
    return bound


def is_exchange(system, value):
    """Whether value is an exchange of the items of the system."""
    last = len(system[0]) - 1
    if is_tuple_of(value, 2):
        return value[0] in ("more", "less") and is_between(value[1], 0, last)
    if is_tuple_of(value, 3):
        word, item, other = value
        return word == "move" and is_between(item, 0, last) and is_between(other, 0, last) and item != other
    return False


def plan_after(plan, exchange):
    """What the exchange makes of the plan, which need not be a plan."""
    units = list(plan)
    if exchange[0] == "more":
        units[exchange[1]] += 1
    else:
        units[exchange[1]] -= 1
    if exchange[0] == "move":
        units[exchange[2]] += 1
    return tuple(units)


def leads_to_fit(system, plan, value):
    """Whether value is an exchange that leads from the plan to one that fits."""
    return is_exchange(system, value) and fits(system, plan_after(plan, value))


def after_exchange(system, plan, exchange):
    """The plan to which the exchange leads."""
    if not fits(system, plan):
        raise NoPlan()
    if not leads_to_fit(system, plan, exchange):
        raise NoExchange()
    return plan_after(plan, exchange)


def is_gaining(system, plan, value):
    """Whether value is an exchange that is gaining for the plan."""
    if not fits(system, plan):
        raise NoPlan()
    if not leads_to_fit(system, plan, value):
        return False
    return gain_of(system, plan_after(plan, value)) > gain_of(system, plan)


def exchanges_of(system):
    """All exchanges of the items of the system."""
    items = list(range(len(system[0])))
    ones = [(word, item) for word in ("more", "less") for item in items]
    return ones + [("move", item, other) for item in items for other in items if item != other]


def gaining_exchange(system, plan):
    """The first gaining exchange for the plan, or None if there is none."""
    for exchange in exchanges_of(system):
        if is_gaining(system, plan, exchange):
            return exchange
    return None


def judge(system, plan):
    """Prices that show that the plan is best, or a gaining exchange."""
    if not fits(system, plan):
        raise NoPlan()
    prices = best_prices(system)
    if price_bound(system, prices) == gain_of(system, plan):
        return ("prices", prices)
    return ("exchange", gaining_exchange(system, plan))


def is_judgement(system, plan, value):
    """Whether value is correct prices or a gaining exchange, with its word, as judge returns them."""
    if not fits(system, plan):
        raise NoPlan()
    if not is_tuple_of(value, 2):
        return False
    word, shown = value
    if word == "prices":
        return price_bound(system, shown) == gain_of(system, plan)
    return word == "exchange" and is_gaining(system, plan, shown)


def priced_groups(span):
    """Pairs (group, price) of the groups that the span and the spans inside it are."""
    pairs = [pair for inner in span.inside for pair in priced_groups(inner)]
    if span.number is not None:
        pairs.append((span.number, span.price))
    return pairs


def best_prices(system):
    """Prices whose bound is the greatest gain."""
    return tuple([price for number, price in sorted(priced_groups(best_span(system)))])
