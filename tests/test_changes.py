"""[44] to [48]: changed systems, idle groups and what limits are worth."""

import copy
import unittest
from itertools import product

from groupcaps.best import greatest_gain
from groupcaps.changes import idle_groups, joined, with_gains, with_group, without_group, worth_of
from groupcaps.errors import NoFit, NoGains, NoGroup, NoItem, NoNumber, TooMany
from groupcaps.systems import is_system
from groupcaps.totals import certificate
from samples import (
    CHOSEN,
    EDGE_GAINS,
    HUGE,
    LIMIT,
    N,
    ODD_GAINS,
    ODD_GROUPS,
    ODD_NUMBERS,
    S,
    T,
    all_plans,
    are_allowed,
    expect_error,
    expect_no_fit,
    fitting_facts,
    fitting_large_systems,
    fitting_plans,
    grown,
    keeps_limits,
    plain_gain,
    small_systems,
    unfit_systems,
    within,
)

ONE = (((1, 1),),)
FULL = (((),) * 6, HUGE[1])


def with_limits_of(system, number, least, most):
    """The system with these limits of the group."""
    groups = list(system[1])
    groups[number] = (groups[number][0], least, most)
    return (system[0], tuple(groups))


class WithGainsTest(unittest.TestCase):
    def test_example(self):
        self.assertEqual(with_gains(T, 1, ()), ((((2, 3),), ()), (((0, 1), 0, 2),)))

    def test_each_item(self):
        for system in (S, T, N, HUGE):
            for item in range(len(system[0])):
                for gains in EDGE_GAINS:
                    found = with_gains(system, item, gains)
                    items = list(system[0])
                    items[item] = gains
                    self.assertEqual(found, (tuple(items), system[1]))
                    self.assertTrue(is_system(found))

    def test_no_item(self):
        for system in (S, N):
            for item in (*ODD_NUMBERS, len(system[0]), 6):
                expect_error(self, NoItem, {"item": item}, with_gains, system, item, ())

    def test_no_gains(self):
        for gains in ODD_GAINS:
            held = copy.deepcopy(gains)
            with self.subTest(gains=str(gains)[:80]):
                expect_error(self, NoGains, {}, with_gains, T, 1, gains)
                expect_error(self, NoGains, {}, with_gains, N, 0, gains)
                self.assertEqual(gains, held)

    def test_no_item_before_no_gains(self):
        for item in (2, -1, True, None):
            for gains in (None, [], ((0, 1),)):
                expect_error(self, NoItem, {"item": item}, with_gains, T, item, gains)


class WithGroupTest(unittest.TestCase):
    def test_examples(self):
        self.assertEqual(with_group(T, ((1,), 1, 1)), ((((2, 3),), ((2, 3),)), (((0, 1), 0, 2), ((1,), 1, 1))))
        expect_error(self, NoGroup, {}, with_group, T, ((0, 1), 1, 1))

    def test_odd_groups(self):
        for group in ODD_GROUPS:
            held = copy.deepcopy(group)
            with self.subTest(group=str(group)[:80]):
                expect_error(self, NoGroup, {}, with_group, T, group)
                expect_error(self, NoGroup, {}, with_group, (T[0], ()), group)
                self.assertEqual(group, held)

    def test_beside_each_group(self):
        choices = [tuple(item for item in range(4) if number >> item & 1) for number in range(1, 16)]
        for members, others in product(choices, repeat=2):
            system = (((),) * 4, ((others, 0, 5),))
            if are_allowed(members, others):
                self.assertEqual(with_group(system, (members, 1, 2)), (system[0], (*system[1], (members, 1, 2))))
            else:
                expect_error(self, NoGroup, {}, with_group, system, (members, 1, 2))

    def test_behind_all_groups(self):
        system = (((),) * 6, (((0, 1), 0, 0), ((2, 3, 4), 0, 0), ((2, 3), 0, 0)))
        for members in ((3, 4), (1, 2), (0, 2), (0, 1, 2), (2, 3), (2, 4, 5), (0, 1, 2, 3)):
            expect_error(self, NoGroup, {}, with_group, system, (members, 0, 0))
        for members in ((5,), (0,), (3,), (0, 1, 5), (2, 3, 4, 5), (0, 1, 2, 3, 4), (0, 1, 2, 3, 4, 5)):
            self.assertEqual(with_group(system, (members, 0, 0))[1][3], (members, 0, 0))

    def test_against_all_plans(self):
        added = refused = 0
        for number, system in enumerate(small_systems(120, 21)):
            plans = fitting_plans(system)
            for choice in range(1, 1 << len(system[0])):
                members = tuple(item for item in range(len(system[0])) if choice >> item & 1)
                group = (members, number % 3, number % 3 + choice % 3)
                if all(are_allowed(members, others[0]) for others in system[1]):
                    kept = [plan for plan in plans if group[1] <= sum(plan[item] for item in members) <= group[2]]
                    self.assertEqual(fitting_plans(with_group(system, group)), kept)
                    added += 1
                else:
                    expect_error(self, NoGroup, {}, with_group, system, group)
                    refused += 1
        self.assertGreater(min(added, refused), 200)

    def test_limits_at_the_edges(self):
        for least, most in ((0, 0), (0, LIMIT), (LIMIT, LIMIT)):
            self.assertEqual(with_group(T, ((0,), least, most))[1][1], ((0,), least, most))

    def test_too_many(self):
        seven = (FULL[0], FULL[1][:7])
        self.assertEqual(with_group(seven, FULL[1][7]), FULL)
        with self.assertRaises(TooMany) as caught:
            with_group(FULL, ((1,), 0, 1))
        self.assertEqual(caught.exception.limit, 8)

    def test_no_group_before_too_many(self):
        for group in (None, ((1, 2), 0, 1), ((0,), 0, 1), ((1,), 1, 0), ((6,), 0, 1)):
            expect_error(self, NoGroup, {}, with_group, FULL, group)


class WithoutGroupTest(unittest.TestCase):
    def test_each_group(self):
        for system in (S, T, N, HUGE):
            for number in range(len(system[1])):
                groups = list(system[1])
                del groups[number]
                self.assertEqual(without_group(system, number), (system[0], tuple(groups)))

    def test_takes_back_with_group(self):
        self.assertEqual(without_group(with_group(T, ((1,), 1, 1)), 1), T)

    def test_no_number(self):
        for system in (S, N, (T[0], ())):
            for number in (*ODD_NUMBERS, len(system[1]), 8):
                expect_error(self, NoNumber, {"number": number}, without_group, system, number)


class JoinedTest(unittest.TestCase):
    def test_example(self):
        found = joined(T, ((((1, 1),),), (((0,), 0, 1),)))
        self.assertEqual(found, ((((2, 3),), ((2, 3),), ((1, 1),)), (((0, 1), 0, 2), ((2,), 0, 1))))

    def test_one(self):
        for system in (S, HUGE):
            self.assertEqual(joined(system), system)

    def test_several(self):
        found = joined(N, T, T)
        self.assertEqual(found[0], N[0] + T[0] + T[0])
        self.assertEqual(found[1], (((0, 1), 3, 4), ((2, 3), 0, 2), ((4, 5), 0, 2)))
        self.assertEqual(joined((ONE, ()), S)[1], (((1, 2), 0, 3), ((1, 2, 3), 2, 4)))

    def test_as_large_as_allowed(self):
        four = (((),) * 3, (((0,), 0, 1), ((1,), 0, 1), ((2,), 0, 1), ((0, 1), 0, 1)))
        found = joined(four, four)
        self.assertEqual((len(found[0]), len(found[1])), (6, 8))
        self.assertTrue(is_system(found))
        self.assertEqual(found[1][7], ((3, 4), 0, 1))

    def expect_too_many(self, limit, *systems):
        with self.assertRaises(TooMany) as caught:
            joined(*systems)
        self.assertEqual(caught.exception.limit, limit)

    def test_too_many_items(self):
        self.expect_too_many(6, S, S, (ONE, ()))
        self.expect_too_many(6, HUGE, (ONE, ()))
        self.expect_too_many(6, *[(ONE, ())] * 7)
        self.assertEqual(joined(*[(ONE, ())] * 6), (ONE * 6, ()))

    def test_too_many_groups(self):
        five = (((),) * 3, tuple((members, 0, 0) for members in ((0,), (1,), (2,), (0, 1), (0, 1, 2))))
        four = (five[0], five[1][:4])
        self.expect_too_many(8, five, four)
        self.expect_too_many(8, four, five)
        self.assertEqual(len(joined(four, four)[1]), 8)

    def test_too_many_items_before_groups(self):
        self.expect_too_many(6, HUGE, (ONE, (((0,), 0, 1),)))

    def test_against_all_plans(self):
        systems = small_systems(60, 5)
        for one, other in zip(systems, systems[1:]):
            if len(one[0]) + len(other[0]) < 6:
                found = joined(one, other)
                self.assertTrue(is_system(found))
                plans = [first + last for first in fitting_plans(one) for last in fitting_plans(other)]
                self.assertEqual(fitting_plans(found), plans)
                for plan in plans[:5]:
                    parts = plain_gain(one, plan[: len(one[0])]) + plain_gain(other, plan[len(one[0]) :])
                    self.assertEqual(plain_gain(found, plan), parts)


def gains_by_sums(system, number):
    """The greatest gain for each sum of the group, of all plans for which the limits of all others hold."""
    members = system[1][number][0]
    others = (system[0], system[1][:number] + system[1][number + 1 :])
    gains = {}
    for plan in all_plans(system):
        if keeps_limits(others, plan):
            units = sum(plan[item] for item in members)
            gains[units] = max(gains.get(units, -(10 ** 9)), plain_gain(system, plan))
    return gains


def greatest_between(gains, least, most):
    return max([gain for units, gain in gains.items() if least <= units <= most], default=None)


class IdleGroupsTest(unittest.TestCase):
    def test_examples(self):
        self.assertEqual(idle_groups(((((2, 3),), ((2, 3),)), (((0, 1), 0, 4), ((1,), 1, 1)))), (0,))

    def test_no_groups(self):
        self.assertEqual(idle_groups((ONE, ())), ())

    def test_each_limit_counts(self):
        items = (((3, 1),), ((3, 1),))
        for least, most, idle in ((0, 6, (0,)), (1, 6, ()), (0, 5, ()), (0, LIMIT, (0,)), (3, 3, ())):
            self.assertEqual(idle_groups((items, (((0, 1), least, most),))), idle)

    def test_each_is_idle_beside_the_other(self):
        # The second item has no units, so both groups say the same.
        self.assertEqual(idle_groups(((((5, 1),), ()), (((0, 1), 0, 2), ((0,), 0, 2)))), (0, 1))
        self.assertEqual(idle_groups(((((5, 1),), ()), (((0, 1), 0, 2), ((0,), 0, 1)))), (0,))

    def test_by_groups_outside_and_inside(self):
        items = (((9, 1),), ((9, 1),), ((9, 1),))
        self.assertEqual(idle_groups((items, (((0,), 0, 4), ((0, 1), 0, 4), ((0, 1, 2), 1, 9)))), (0,))
        self.assertEqual(idle_groups((items, (((0,), 0, 4), ((0, 1), 0, 13), ((0, 1, 2), 0, 22)))), (1, 2))
        self.assertEqual(idle_groups((items, (((0,), 2, 9), ((0, 1), 2, 18)))), (1,))
        # What the others leave to the first item.
        self.assertEqual(idle_groups((items, (((0,), 3, 5), ((0, 1, 2), 5, 5), ((1, 2), 0, 2)))), (0, 2))
        self.assertEqual(idle_groups((items, (((0,), 4, 5), ((0, 1, 2), 5, 5), ((1, 2), 0, 2)))), (2,))
        self.assertEqual(idle_groups((items, (((0,), 3, 4), ((0, 1, 2), 5, 5), ((1, 2), 0, 1)))), ())

    def test_against_all_plans(self):
        some = 0
        for facts in fitting_facts():
            idle = []
            for number, (members, least, most) in enumerate(facts.system[1]):
                gains = gains_by_sums(facts.system, number)
                if least <= min(gains) and max(gains) <= most:
                    idle.append(number)
            self.assertEqual(idle_groups(facts.system), tuple(idle))
            some += len(idle) > 0
        self.assertGreater(some, 50)

    def test_grown_systems(self):
        for facts in fitting_facts()[::5]:
            with within(1):
                large = idle_groups(grown(facts.system, 10 ** 9))
            self.assertEqual(large, idle_groups(facts.system))

    def test_large_systems(self):
        for system in fitting_large_systems():
            with within(1):
                idle = idle_groups(system)
                self.assertEqual(idle_groups(system), idle)
            # Without an idle group nothing else is possible.
            for number in idle:
                others = without_group(system, number)
                self.assertEqual(certificate(others)[0], "totals")
                self.assertEqual(greatest_gain(others), greatest_gain(system))
        self.assertEqual(idle_groups(HUGE), (6, 7))

    def test_no_fit(self):
        for system in (N, *unfit_systems()[:40]):
            expect_no_fit(self, idle_groups, system)


class WorthTest(unittest.TestCase):
    def test_examples(self):
        self.assertEqual(worth_of(S, 0), (None, 0, -3, 0))
        expect_error(self, NoNumber, {"number": 2}, worth_of, S, 2)

    def test_limits_that_are_not_allowed(self):
        items = (((5, 2),), ((5, 1),))
        self.assertEqual(worth_of((items, (((0, 1), 0, 0),)), 0), (None, None, None, 2))
        self.assertEqual(worth_of((items, (((0, 1), 3, 3),)), 0), (0, None, None, 2))
        self.assertEqual(worth_of((items, (((0, 1), 6, 7),)), 0), (0, 0, -1, 1))
        wide = (((LIMIT, 1),), ((LIMIT, -1),))
        self.assertEqual(worth_of((wide, (((0, 1), LIMIT, LIMIT),)), 0), (0, None, None, None))
        self.assertEqual(worth_of((wide, (((1,), LIMIT, LIMIT),)), 0), (1, None, None, None))
        self.assertEqual(worth_of((wide, (((0,), 0, LIMIT),)), 0), (None, 0, -1, None))

    def test_no_plan_fits_then(self):
        items = (((5, 2),), ((5, -1),))
        self.assertEqual(worth_of((items, (((0, 1), 10, 12),)), 0), (1, None, 0, 0))
        self.assertEqual(worth_of((items, (((0, 1), 0, 4), ((0,), 3, 4))), 0), (None, 0, -2, 0))
        self.assertEqual(worth_of((items, (((0, 1), 0, 3), ((0,), 3, 4))), 0), (None, 0, None, 2))
        self.assertEqual(worth_of((items, (((0, 1), 0, 3), ((0,), 3, 4))), 1), (0, None, 0, 0))

    def test_against_all_plans(self):
        seen = set()
        for facts in fitting_facts():
            for number, (members, least, most) in enumerate(facts.system[1]):
                gains = gains_by_sums(facts.system, number)
                greatest = greatest_between(gains, least, most)
                expected = []
                for low, high in ((least - 1, most), (least + 1, most), (least, most - 1), (least, most + 1)):
                    gain = greatest_between(gains, low, high) if low >= 0 else None
                    expected.append(None if gain is None else gain - greatest)
                self.assertEqual(worth_of(facts.system, number), tuple(expected))
                seen.update((at, entry is None or (entry > 0) - (entry < 0)) for at, entry in enumerate(expected))
        # Each entry may be None, and 0; a smaller most loses and a greater most gains.
        for at in range(4):
            self.assertTrue({(at, True), (at, 0)} <= seen)
        self.assertTrue({(0, 1), (1, -1), (2, -1), (3, 1)} <= seen)

    def test_large_systems(self):
        for system in fitting_large_systems():
            gain = greatest_gain(system)
            for number, (members, least, most) in enumerate(system[1]):
                with within(1):
                    found = worth_of(system, number)
                    self.assertEqual(worth_of(system, number), found)
                limits = ((least - 1, most), (least + 1, most), (least, most - 1), (least, most + 1))
                for entry, (low, high) in zip(found, limits):
                    other = with_limits_of(system, number, low, high)
                    if not is_system(other) or certificate(other)[0] == "never":
                        self.assertIsNone(entry)
                    else:
                        self.assertEqual(gain + entry, greatest_gain(other))

    def test_no_number(self):
        for system in (S, (ONE, ())):
            for number in (*ODD_NUMBERS, len(system[1]), 8):
                expect_error(self, NoNumber, {"number": number}, worth_of, system, number)

    def test_no_number_before_no_fit(self):
        for number in (*ODD_NUMBERS, 1):
            expect_error(self, NoNumber, {"number": number}, worth_of, N, number)

    def test_no_fit(self):
        for system in (N, *unfit_systems()[:40]):
            for number in range(len(system[1])):
                expect_no_fit(self, worth_of, system, number)

    def test_no_fit_though_a_changed_limit_would_do(self):
        system = ((((1, 5),), ((1, 5),)), (((0, 1), 3, 4),))
        self.assertEqual(greatest_gain(with_limits_of(system, 0, 2, 4)), 10)
        self.assertRaises(NoFit, worth_of, system, 0)


class ArgumentsTest(unittest.TestCase):
    def test_systems_stay_as_they_are(self):
        for system in CHOSEN:
            held = copy.deepcopy(system)
            with_gains(system, 0, ())
            joined(system, (ONE, ()))
            for number in range(len(system[1])):
                without_group(system, number)
                if certificate(system)[0] == "totals":
                    worth_of(system, number)
                    idle_groups(system)
            self.assertEqual(system, held)


if __name__ == "__main__":
    unittest.main()
