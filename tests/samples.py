"""Systems and values that several tests use, and slow but plain ways to judge them."""

from itertools import combinations, product

LIMIT = 1000000000000
MAX_GAIN = 1000000

# The systems of the document.
S = ((((2, 5), (1, 1)), ((3, 3),), ((1, 4), (2, -1))), (((0, 1), 0, 3), ((0, 1, 2), 2, 4)))
T = ((((2, 3),), ((2, 3),)), (((0, 1), 0, 2),))
N = ((((1, 5),), ((1, 5),)), (((0, 1), 3, 4),))

# Six items of LIMIT units with eight groups, the outer ones listed before the inner ones.
HUGE = (
    (((LIMIT, 7),), ((LIMIT - 1, 1), (1, 0)), ((1, MAX_GAIN), (LIMIT - 1, -MAX_GAIN)), ((LIMIT, 2),), (), ((5, 5),)),
    (
        ((0, 1, 2, 3), 3, LIMIT),
        ((0, 1), LIMIT // 2, LIMIT - 7),
        ((2, 3), 0, LIMIT // 3),
        ((0,), 1, LIMIT // 4),
        ((3,), 10, 11),
        ((4, 5), 0, 4),
        ((4,), 0, LIMIT),
        ((5,), 0, LIMIT),
    ),
)


def nested(value, levels):
    """The value within so many tuples of one entry."""
    for number in range(levels):
        value = (value,)
    return value


# Values that are no system, no plan, no number, no reason and no certificate.
ODD_VALUES = (
    None,
    True,
    False,
    10 ** 99,
    -(10 ** 99),
    "",
    "0",
    "totals",
    "x" * 5000,
    [],
    [0],
    [[], []],
    {},
    {0: 1},
    {"never": ()},
    (None,),
    ("",),
    ((), (), ()),
    ([], []),
    ({}, {}),
    (None, None),
    ("totals",),
    ("never",),
    nested(None, 20),
    nested((), 19),
    (0,) * 1999,
    ((),) * 1999,
    tuple(range(1999)),
)


class Numbers:
    """Numbers that look thrown but are the same in each run."""

    def __init__(self, start):
        self.state = start

    def below(self, many):
        self.state = (self.state * 6364136223846793005 + 1442695040888963407) % (1 << 64)
        return (self.state >> 33) % many

    def between(self, least, most):
        return least + self.below(most - least + 1)


def made_gains(numbers, largest):
    steps = numbers.below(3)
    gains = []
    gain = numbers.between(0, 6)
    for number in range(steps):
        gains.append((numbers.between(1, largest), gain))
        gain -= numbers.between(1, 4)
    return tuple(gains)


def are_allowed(members, others):
    one, other = set(members), set(others)
    return one != other and (not one & other or one < other or other < one)


def made_system(numbers, many, largest):
    """A system with this number of items, with groups in no special order."""
    items = tuple(made_gains(numbers, largest) for number in range(many))
    groups = []
    for number in range(numbers.below(7)):
        members = tuple(item for item in range(many) if numbers.below(2))
        if members and all(are_allowed(members, group[0]) for group in groups):
            room = sum(count for item in members for count, gain in items[item])
            least = numbers.below(room // 2 + 2)
            groups.append((members, least, least + numbers.below(room + 1)))
    return (items, tuple(groups))


def small_systems(many=400, start=1):
    numbers = Numbers(start)
    return [made_system(numbers, 1 + number % 4, 2) for number in range(many)]


def capacity(gains):
    return sum(count for count, gain in gains)


def all_plans(system):
    return product(*[range(capacity(gains) + 1) for gains in system[0]])


def keeps_limits(system, plan):
    return all(least <= sum(plan[item] for item in members) <= most for members, least, most in system[1])


def fitting_plans(system):
    return [plan for plan in all_plans(system) if keeps_limits(system, plan)]


def all_choices(many):
    """All ascending tuples of numbers below many."""
    return [choice for size in range(many + 1) for choice in combinations(range(many), size)]
