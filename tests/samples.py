"""Systems and values that several tests use, and slow but plain ways to judge them."""

import signal
from contextlib import contextmanager
from functools import lru_cache
from itertools import combinations, product

from groupcaps.errors import NoFit
from groupcaps.totals import certificate, is_contradiction

LIMIT = 1000000000000
MAX_GAIN = 1000000

# The systems of the document.
S = ((((2, 5), (1, 1)), ((3, 3),), ((1, 4), (2, -1))), (((0, 1), 0, 3), ((0, 1, 2), 2, 4)))
T = ((((2, 3),), ((2, 3),)), (((0, 1), 0, 2),))
N = ((((1, 5),), ((1, 5),)), (((0, 1), 3, 4),))

# Six items of LIMIT units with eight groups, the outer ones listed before the inner ones.
HUGE = (
    (((LIMIT, 7),), ((LIMIT - 1, 1), (1, 0)), ((1, MAX_GAIN), (LIMIT - 1, -MAX_GAIN)), ((LIMIT, 2),), (), ((5, 5),)),
    (
        ((0, 1, 2, 3), 3, LIMIT),
        ((0, 1), LIMIT // 2, LIMIT - 7),
        ((2, 3), 0, LIMIT // 3),
        ((0,), 1, LIMIT // 4),
        ((3,), 10, 11),
        ((4, 5), 0, 4),
        ((4,), 0, LIMIT),
        ((5,), 0, LIMIT),
    ),
)


def nested(value, levels):
    """The value within so many tuples of one entry."""
    for number in range(levels):
        value = (value,)
    return value


# Values that are no system, no plan, no number, no reason and no certificate.
ODD_VALUES = (
    None,
    True,
    False,
    10 ** 99,
    -(10 ** 99),
    "",
    "0",
    "totals",
    "x" * 5000,
    [],
    [0],
    [[], []],
    {},
    {0: 1},
    {"never": ()},
    (None,),
    ("",),
    ((), (), ()),
    ([], []),
    ({}, {}),
    (None, None),
    ("totals",),
    ("never",),
    nested(None, 20),
    nested((), 19),
    (0,) * 1999,
    ((),) * 1999,
    tuple(range(1999)),
)


# Values that are no number of an item or a group, no units and no total.
ODD_NUMBERS = (None, True, False, "", "0", (), (0,), [0], {}, 10 ** 99, -(10 ** 99), -1)


# Values that are no plan that fits S.
UNFIT = (
    *ODD_VALUES,
    (0, 1, 0),
    (3, 3, 0),
    (3, 1, 0),
    (4, 0, 0),
    (-1, 3, 0),
    (2, 1),
    (2, 1, 1, 0),
    [2, 1, 1],
    (2, True, 1),
    (2, 1, True),
    (2, "1", 1),
    "211",
)


# Values that are no gains, near misses among them.
ODD_GAINS = (
    *ODD_VALUES,
    [(1, 1)],
    ([1, 1],),
    ((1,),),
    ((1, 1, 1),),
    (1, 1),
    ((0, 1),),
    ((-1, 1),),
    ((True, 1),),
    ((1, True),),
    (("1", 1),),
    ((1, None),),
    ((1, 1), (1, 1)),
    ((1, 1), (1, 2)),
    ((1, MAX_GAIN + 1),),
    ((1, -MAX_GAIN - 1),),
    ((LIMIT + 1, 1),),
    ((LIMIT, 1), (1, 0)),
    ((1, 6), (1, 5), (1, 4), (1, 3), (1, 2), (1, 1)),
)


# Gains at the edges of what is allowed.
EDGE_GAINS = (
    (),
    ((1, 0),),
    ((1, MAX_GAIN), (1, -MAX_GAIN)),
    ((LIMIT, -1),),
    ((LIMIT - 1, 1), (1, 0)),
    ((1, 5), (1, 4), (1, 3), (1, 2), (1, 1)),
)


# Values that are no group of two items, whatever other groups there are.
ODD_GROUPS = (
    *ODD_VALUES,
    (),
    [(0,), 0, 1],
    ([0], 0, 1),
    (0, 0, 1),
    ((0,), 0),
    ((0,), 0, 1, 1),
    ((), 0, 1),
    ((0, 0), 0, 1),
    ((1, 0), 0, 1),
    ((2,), 0, 1),
    ((0, 2), 0, 1),
    ((-1,), 0, 1),
    ((False,), 0, 1),
    ((True,), 0, 1),
    (("0",), 0, 1),
    ((0,), -1, 1),
    ((0,), 2, 1),
    ((0,), 0, LIMIT + 1),
    ((0,), LIMIT + 1, LIMIT + 1),
    ((0,), False, 1),
    ((0,), 0, True),
    ((0,), 0, None),
    ((0,), "0", 1),
)


# Pairs that are no limits of a group.
ODD_LIMITS = (
    (1, 0),
    (-1, 0),
    (-2, -1),
    (0, LIMIT + 1),
    (LIMIT + 1, LIMIT + 1),
    (LIMIT, LIMIT - 1),
    (False, 1),
    (0, True),
    (None, 1),
    (0, None),
    ("0", 1),
    (0, "1"),
    ((0,), 1),
    (0, [1]),
    ({}, {}),
    (-(10 ** 99), 10 ** 99),
)


class Numbers:
    """Numbers that look thrown but are the same in each run."""

    def __init__(self, start):
        self.state = start

    def below(self, many):
        self.state = (self.state * 6364136223846793005 + 1442695040888963407) % (1 << 64)
        return (self.state >> 33) % many

    def between(self, least, most):
        return least + self.below(most - least + 1)


def made_gains(numbers, largest):
    steps = numbers.below(3)
    gains = []
    gain = numbers.between(0, 6)
    for number in range(steps):
        gains.append((numbers.between(1, largest), gain))
        gain -= numbers.between(1, 4)
    return tuple(gains)


def are_allowed(members, others):
    one, other = set(members), set(others)
    return one != other and (not one & other or one < other or other < one)


def made_system(numbers, many, largest):
    """A system with this number of items, with groups in no special order."""
    items = tuple(made_gains(numbers, largest) for number in range(many))
    groups = []
    for number in range(numbers.below(7)):
        members = tuple(item for item in range(many) if numbers.below(2))
        if members and all(are_allowed(members, group[0]) for group in groups):
            room = sum(count for item in members for count, gain in items[item])
            least = numbers.below(room // 2 + 2)
            groups.append((members, least, least + numbers.below(room + 1)))
    return (items, tuple(groups))


def small_systems(many=400, start=1):
    numbers = Numbers(start)
    return [made_system(numbers, 1 + number % 4, 2) for number in range(many)]


def capacity(gains):
    return sum(count for count, gain in gains)


def all_plans(system):
    return product(*[range(capacity(gains) + 1) for gains in system[0]])


def keeps_limits(system, plan):
    return all(least <= sum(plan[item] for item in members) <= most for members, least, most in system[1])


def fitting_plans(system):
    return [plan for plan in all_plans(system) if keeps_limits(system, plan)]


def all_choices(many):
    """All ascending tuples of numbers below many."""
    return [choice for size in range(many + 1) for choice in combinations(range(many), size)]


def gains_of_units(gains):
    """The gain of each single unit."""
    return [gain for count, gain in gains for unit in range(count)]


def plain_gain(system, plan):
    return sum(sum(gains_of_units(gains)[:units]) for gains, units in zip(system[0], plan))


def best_of(gains, plans):
    """Those of the plans that have the greatest gain."""
    greatest = max(gains[plan] for plan in plans)
    return [plan for plan in plans if gains[plan] == greatest]


def after_move(plan, less=None, more=None):
    """The plan with one unit less and one unit more of these items."""
    return tuple(units - (item == less) + (item == more) for item, units in enumerate(plan))


def exchanges_with_plans(plan):
    """All exchanges, each with what it makes of the plan."""
    items = range(len(plan))
    found = {("more", item): after_move(plan, more=item) for item in items}
    found.update({("less", item): after_move(plan, less=item) for item in items})
    found.update({("move", one, two): after_move(plan, one, two) for one in items for two in items if one != two})
    return found


def plainly_as_even(one, other):
    """[40], by its words."""
    sums = [[sum(sorted(plan)[len(plan) - many :]) for many in range(len(plan) + 1)] for plan in (one, other)]
    return all(least <= most for least, most in zip(*sums))


class Facts:
    """A small system with all its plans that fit, gone through one by one, in tuple order."""

    def __init__(self, system):
        self.system = system
        self.plans = fitting_plans(system)
        self.gains = {plan: plain_gain(system, plan) for plan in self.plans}
        self.best = best_of(self.gains, self.plans) if self.plans else []
        self.totals = sorted(set(sum(plan) for plan in self.plans))

    def plans_with(self, total):
        return [plan for plan in self.plans if sum(plan) == total]

    def best_with(self, total):
        return best_of(self.gains, self.plans_with(total))


def falling_gains(numbers, steps, largest, start, drop):
    gains = []
    gain = numbers.between(-(start // 2), start)
    for number in range(numbers.below(steps + 1)):
        gains.append((numbers.between(1, largest), gain))
        gain -= numbers.between(1, drop)
    return tuple(gains)


def nested_members(numbers, items):
    """Members of groups within groups of these items."""
    many = len(items)
    found = [tuple(sorted(items))] if numbers.below(3) < min(many, 2) else []
    if many > 1:
        cut = numbers.between(1, many - 1)
        found.extend(nested_members(numbers, items[:cut]) + nested_members(numbers, items[cut:]))
    return found


def nested_system(numbers, many, steps, largest, start, drop):
    """A system with limits near the sums of some plan; often they are met exactly."""
    items = tuple(falling_gains(numbers, steps, largest, start, drop) for number in range(many))
    plan = [numbers.between(0, capacity(gains)) for gains in items]
    order = sorted(range(many), key=lambda item: numbers.below(1000))
    groups = []
    for members in nested_members(numbers, order)[:8]:
        units = sum(plan[item] for item in members)
        below, above = [numbers.below(3) * numbers.between(0, largest) for limit in range(2)]
        groups.append((members, min(max(0, units - below), LIMIT), min(units + above, LIMIT)))
    if numbers.below(8) == 0 and groups:
        # One limit that the plan does not keep, so that perhaps no plan fits.
        members, least, most = groups.pop()
        groups.append((members, most + 1, most + 1) if most < LIMIT else (members, 0, 0))
    return (items, tuple(groups[::-1] if numbers.below(2) else groups))


# Items without groups, capacity 0, losses that limits demand, equal gains, limits met exactly, and no plan that fits.
CHOSEN = (
    S,
    T,
    N,
    (((),), ()),
    (((), ()), (((0, 1), 0, 5), ((1,), 0, 0))),
    ((((2, 3),), (), ((1, 1), (3, -1))), ()),
    ((((3, -2),), ((3, -2),)), (((0, 1), 4, 5),)),
    ((((2, 1), (2, -1)), ((2, 1), (2, -1)), ((2, 0),)), (((0, 1), 3, 7), ((0, 1, 2), 6, 9))),
    ((((3, 2),),) * 3, (((0, 1, 2), 4, 4), ((1, 2), 3, 3), ((2,), 1, 2))),
    ((((2, 0),),) * 3, (((0, 2), 1, 3),)),
    ((((2, 5),), ((2, 4),), ((2, 3),)), (((0,), 0, 1), ((0, 1), 0, 2), ((0, 1, 2), 0, 3))),
    ((((2, -5),), ((2, -4),), ((2, -3),)), (((0,), 1, 2), ((0, 1), 2, 4), ((0, 1, 2), 3, 6))),
    ((((4, 1),), ((4, 1),), ((4, 1),), ((4, 1),)), (((0, 3), 2, 4), ((1, 2), 2, 3), ((0, 1, 2, 3), 5, 6))),
    ((((2, 9),), ((5, 1),)), (((0,), 0, 1), ((0, 1), 4, 4), ((1,), 0, 2))),
)


@lru_cache(maxsize=None)
def small_facts():
    """The facts of many small systems, with and without plans that fit."""
    numbers = Numbers(77)
    systems = [*CHOSEN, *small_systems(150, 12)]
    while len(systems) < 500:
        system = nested_system(numbers, numbers.between(2, 4), 3, 2, 2, 2)
        plans = 1
        for gains in system[0]:
            plans *= capacity(gains) + 1
        if plans <= 400:
            systems.append(system)
    return [Facts(system) for system in systems]


def fitting_facts():
    return [facts for facts in small_facts() if facts.plans]


def unfit_systems():
    return [facts.system for facts in small_facts() if not facts.plans]


def large_systems(many=60, start=8):
    """Systems with six items, counts up to 10 ** 12 and gains of both signs; a plan fits most of them."""
    numbers = Numbers(start)
    systems = []
    for number in range(many):
        largest = (LIMIT // 5, 10 ** 9)[number % 2]
        start, drop = ((MAX_GAIN, MAX_GAIN // 8), (3, 1), (1000, 900))[number % 3]
        systems.append(nested_system(numbers, 6, 5, largest, start, drop))
    return systems


def fitting_large_systems():
    return [HUGE, *[system for system in large_systems() if certificate(system)[0] == "totals"]]


def grown(system, times):
    """The system with all counts and limits so many times as large."""
    items = tuple(tuple((count * times, gain) for count, gain in gains) for gains in system[0])
    return (items, tuple((members, least * times, most * times) for members, least, most in system[1]))


@contextmanager
def within(seconds):
    """Fails if the block takes longer, also if it would never end."""

    def stop(number, frame):
        raise AssertionError(f"longer than {seconds} seconds")

    held = signal.signal(signal.SIGALRM, stop)
    signal.setitimer(signal.ITIMER_REAL, seconds)
    try:
        yield
    finally:
        signal.setitimer(signal.ITIMER_REAL, 0)
        signal.signal(signal.SIGALRM, held)


def expect_error(test, error, attributes, function, *arguments):
    """The call raises this very exception, with these very objects as attributes."""
    with test.assertRaises(error) as caught:
        function(*arguments)
    test.assertIs(type(caught.exception), error)
    test.assertEqual(list(vars(caught.exception)), list(attributes))
    for name, value in attributes.items():
        test.assertIs(getattr(caught.exception, name), value)


def expect_no_fit(test, function, system, *others):
    """The call raises NoFit with a contradiction of the system, the same one each time."""
    found = []
    for number in range(2):
        with test.assertRaises(NoFit) as caught:
            function(system, *others)
        test.assertIs(type(caught.exception), NoFit)
        found.append(caught.exception.contradiction)
    test.assertIs(is_contradiction(system, found[0]), True)
    test.assertEqual(found[0], found[1])
