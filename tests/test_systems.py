"""[5] to [12]: systems, their items and their plans."""

import copy
import unittest

from groupcaps.errors import NoItem, NoPlan, NoUnits
from groupcaps.systems import (
    broken_groups,
    capacity_of,
    fits,
    gain_of,
    gain_of_units,
    is_plan,
    is_system,
    system_error,
)
from samples import HUGE, LIMIT, MAX_GAIN, N, ODD_VALUES, S, T, all_plans, keeps_limits, small_systems

SIX = ((),) * 6
EIGHT = tuple(((item,), 0, 0) for item in range(6)) + (((0, 1), 0, 0), ((0, 1, 2), 0, 0))
ODD_NUMBERS = (None, True, False, "", "1", "0", (), (1,), [1], {}, {1: 1}, 10 ** 99, -(10 ** 99))


def paths_of(value, path=()):
    """The places of all parts of a tuple of tuples."""
    yield path
    if isinstance(value, tuple):
        for index, part in enumerate(value):
            yield from paths_of(part, (*path, index))


def part_at(value, path):
    for index in path:
        value = value[index]
    return value


def replaced(value, path, new):
    """The value with new in the place of the part at this path."""
    if not path:
        return new
    parts = list(value)
    parts[path[0]] = replaced(parts[path[0]], path[1:], new)
    return tuple(parts)


def error_at(path):
    """What system_error says of a part at this path that is of a wrong kind."""
    if len(path) < 2:
        return ("system", None)
    return ("item" if path[0] == 0 else "group", path[1])


class SystemErrorTest(unittest.TestCase):
    def check(self, value, error):
        held = copy.deepcopy(value)
        self.assertEqual(system_error(value), error)
        self.assertIs(is_system(value), error is None)
        self.assertEqual(value, held)

    def check_gains(self, gains, correct):
        with self.subTest(gains=gains):
            self.check(((gains,), ()), None if correct else ("item", 0))
            self.check((((), gains), (((0,), 0, 0),)), None if correct else ("item", 1))

    def check_group(self, group, correct):
        with self.subTest(group=group):
            self.check((((), ((1, 1),), ()), (group,)), None if correct else ("group", 0))
            self.check((((), ((1, 1),), ()), (((0, 1, 2), 0, 1), group)), None if correct else ("group", 1))

    def test_systems(self):
        for system in (S, T, N, HUGE, ((((2, 3), (1, 1), (5, 0), (1, -1), (1, -2)),), ())):
            self.check(system, None)

    def test_examples(self):
        self.check((((),), (((1,), 0, 0),)), ("group", 0))
        self.check(((((1, 3), (1, 3)),), ()), ("item", 0))

    def test_made_systems(self):
        for system in small_systems(60):
            self.check(system, None)

    def test_odd_values(self):
        for value in ODD_VALUES:
            self.check(value, ("system", None))

    def test_wrong_form(self):
        for value in (
            (),
            (SIX,),
            (SIX, (), ()),
            [SIX, ()],
            (list(SIX), ()),
            (SIX, []),
            (SIX, {}),
            ({}, ()),
            (SIX, None),
            (None, ()),
            ("ab", ()),
            (SIX, ""),
            (1, ()),
            ((), ()),
            ((), (((0,), 0, 0),)),
        ):
            self.check(value, ("system", None))

    def test_number_of_items(self):
        self.check((((),), ()), None)
        self.check((SIX, ()), None)
        self.check(((*SIX, ()), ()), ("system", None))
        self.check(((*SIX, None), ()), ("system", None))

    def test_number_of_groups(self):
        self.check((SIX, EIGHT), None)
        self.check((SIX, (*EIGHT, ((0, 1, 2, 3), 0, 0))), ("system", None))
        self.check((SIX, (None,) * 8), ("group", 0))
        self.check((SIX, (None,) * 9), ("system", None))

    def test_number_of_steps(self):
        five = ((1, 5), (1, 4), (1, 3), (1, 2), (1, 1))
        self.check_gains((), True)
        self.check_gains(five, True)
        self.check_gains((*five, (1, 0)), False)

    def test_counts(self):
        self.check_gains(((1, 0),), True)
        self.check_gains(((0, 0),), False)
        self.check_gains(((-1, 0),), False)
        self.check_gains(((2, 1), (0, 0)), False)
        self.check_gains(((3, 1), (-1, 0)), False)

    def test_capacity(self):
        self.check_gains(((LIMIT, 0),), True)
        self.check_gains(((LIMIT + 1, 0),), False)
        self.check_gains(((LIMIT - 4, 5), (4, 4)), True)
        self.check_gains(((LIMIT - 4, 5), (5, 4)), False)
        self.check_gains(((LIMIT // 2, 5), (LIMIT // 2, 4), (1, 1)), False)

    def test_sizes_of_gains(self):
        self.check_gains(((1, MAX_GAIN), (1, -MAX_GAIN)), True)
        self.check_gains(((1, MAX_GAIN + 1),), False)
        self.check_gains(((1, -MAX_GAIN - 1),), False)

    def test_gains_fall(self):
        self.check_gains(((1, 3), (1, 2), (1, -7)), True)
        self.check_gains(((1, 3), (1, 3)), False)
        self.check_gains(((1, 3), (1, 4)), False)
        self.check_gains(((1, 5), (1, 3), (1, 3)), False)
        self.check_gains(((1, 5), (1, 3), (1, 4)), False)

    def test_kinds_of_gains(self):
        for gains in ([], [(1, 1)], ([1, 1],), ((1,),), ((1, 1, 1),), ((),), (1, 1), ("ab",), "", {}, None, 0, True):
            self.check_gains(gains, False)
        for number in ODD_NUMBERS:
            self.check_gains(((number, 1),), False)
            self.check_gains(((1, number),), False)
            self.check_gains(((1, 7), (1, number)), False)

    def test_members(self):
        for members in ((0,), (1,), (2,), (0, 1), (0, 2), (1, 2)):
            self.check_group((members, 0, 1), True)
        for members in ((), (1, 0), (0, 0), (0, 1, 1), (0, 2, 1), (3,), (0, 3), (-1,), (-1, 0), [0], [0, 1], "0", {0: 0}):
            self.check_group((members, 0, 1), False)
        for number in ODD_NUMBERS:
            self.check_group(((number,), 0, 1), False)
            self.check_group(((0, number), 0, 1), False)
            if not isinstance(number, tuple):
                self.check_group((number, 0, 1), False)

    def test_limits(self):
        for least, most in ((0, 0), (1, 1), (0, LIMIT), (LIMIT, LIMIT), (5, 9)):
            self.check_group(((1,), least, most), True)
        for least, most in ((1, 0), (-1, 0), (-2, -1), (LIMIT, LIMIT + 1), (LIMIT + 1, LIMIT + 1), (LIMIT, LIMIT - 1)):
            self.check_group(((1,), least, most), False)
        for number in ODD_NUMBERS:
            self.check_group(((1,), number, 5), False)
            self.check_group(((1,), 0, number), False)
            self.check_group(((1,), number, number), False)

    def test_kinds_of_groups(self):
        for group in (None, (), ((1,),), ((1,), 0), ((1,), 0, 1, 2), [(1,), 0, 1], "abc", {}, 1, True, (1, 0, 1)):
            self.check_group(group, False)

    def test_same_members_twice(self):
        self.check((SIX, (((0, 1), 0, 1), ((0, 1), 0, 1))), ("group", 1))
        self.check((SIX, (((0, 1), 0, 1), ((2,), 0, 1), ((3, 4), 0, 2), ((0, 1), 5, 6))), ("group", 3))
        self.check((SIX, (((5,), 0, 1), ((5,), 0, 1), ((5,), 0, 1))), ("group", 1))

    def test_crossing_groups(self):
        self.check((SIX, (((0, 1), 0, 1), ((1, 2), 0, 1))), ("group", 1))
        self.check((SIX, (((0, 1, 2), 0, 1), ((2, 3), 0, 1))), ("group", 1))
        self.check((SIX, (((2, 3), 0, 1), ((0, 1, 2), 0, 1))), ("group", 1))
        self.check((SIX, (((0, 5), 0, 1), ((1, 2, 3), 0, 1), ((3, 4), 0, 1), ((0, 1), 0, 1))), ("group", 2))
        self.check((SIX, (((0, 1, 2), 0, 1), ((3, 4), 0, 1), ((0, 1, 3), 0, 1))), ("group", 2))

    def test_nested_groups(self):
        self.check((SIX, (((0, 1, 2, 3), 0, 1), ((1, 2), 0, 1), ((1,), 0, 1), ((3,), 0, 1))), None)
        self.check((SIX, (((1,), 0, 1), ((3,), 0, 1), ((1, 2), 0, 1), ((0, 1, 2, 3), 0, 1))), None)
        self.check((SIX, (((0, 1), 0, 1), ((2, 3), 0, 1), ((4, 5), 0, 1), ((0, 1, 2, 3, 4, 5), 0, 1))), None)

    def test_limits_that_cannot_be_kept(self):
        self.check((((),), (((0,), 5, 9),)), None)
        self.check((((), ()), (((0,), 5, 9), ((0, 1), 0, 1))), None)

    def test_first_error(self):
        bad = ((1, 3), (1, 3))
        self.check((((), bad, bad), (((7,), 0, 0),)), ("item", 1))
        self.check((((), (), bad), ()), ("item", 2))
        self.check((((), ()), (((0,), 0, 0), ((0,), 1, 0), ((9,), 0, 0))), ("group", 1))
        self.check((((), ()), (((0, 1), 0, 0), ((0,), 0, 0), ((1,), 2, 1))), ("group", 2))
        self.check(((bad,) * 7, ()), ("system", None))
        self.check((([1],), [1]), ("system", None))

    def test_each_part_of_a_wrong_kind(self):
        for path in paths_of(S):
            part = part_at(S, path)
            wrong = [None, True, False, "", "1", {}, 10 ** 99, -(10 ** 99)]
            wrong.extend([list(part), part + (None,)] if isinstance(part, tuple) else [(part,), [part], str(part)])
            for new in wrong:
                with self.subTest(path=path, new=new):
                    # An entry more at the end of all items or all groups is itself what is wrong.
                    at = (*path, len(part)) if len(path) == 1 and isinstance(new, tuple) else path
                    self.check(replaced(S, path, new), error_at(at))


class ItemTest(unittest.TestCase):
    def test_capacity(self):
        self.assertEqual([capacity_of(S, item) for item in range(3)], [3, 3, 3])
        self.assertEqual([capacity_of(HUGE, item) for item in range(6)], [LIMIT, LIMIT, LIMIT, LIMIT, 0, 5])
        self.assertEqual(capacity_of((((),), ()), 0), 0)

    def test_gain_of_units(self):
        self.assertEqual([gain_of_units(S, 0, units) for units in range(4)], [0, 5, 10, 11])
        self.assertEqual([gain_of_units(S, 2, units) for units in range(4)], [0, 4, 3, 2])
        self.assertEqual(gain_of_units((((),), ()), 0, 0), 0)

    def test_gain_of_many_units(self):
        self.assertEqual(gain_of_units(HUGE, 0, LIMIT), 7 * LIMIT)
        self.assertEqual(gain_of_units(HUGE, 1, LIMIT), LIMIT - 1)
        self.assertEqual(gain_of_units(HUGE, 2, LIMIT // 2), MAX_GAIN - (LIMIT // 2 - 1) * MAX_GAIN)
        self.assertEqual(gain_of_units(HUGE, 2, LIMIT), MAX_GAIN - (LIMIT - 1) * MAX_GAIN)

    def test_no_item(self):
        for item in (*ODD_NUMBERS, *ODD_VALUES, -1, 3, 4):
            for call in (
                lambda: capacity_of(S, item),
                lambda: gain_of_units(S, item, 0),
                lambda: gain_of_units(S, item, 99),
                lambda: gain_of_units(S, item, None),
            ):
                with self.assertRaises(NoItem) as caught:
                    call()
                self.assertIs(type(caught.exception), NoItem)
                self.assertIs(caught.exception.item, item)

    def test_no_item_in_other_sizes(self):
        self.assertRaises(NoItem, capacity_of, T, 2)
        self.assertRaises(NoItem, capacity_of, (((),), ()), 1)
        self.assertRaises(NoItem, capacity_of, HUGE, 6)

    def test_no_units(self):
        for units in (*ODD_NUMBERS, *ODD_VALUES, -1, 4, LIMIT):
            with self.assertRaises(NoUnits) as caught:
                gain_of_units(S, 0, units)
            self.assertIs(type(caught.exception), NoUnits)
            self.assertIs(caught.exception.units, units)

    def test_no_units_at_the_edges(self):
        self.assertRaises(NoUnits, gain_of_units, (((),), ()), 0, 1)
        self.assertRaises(NoUnits, gain_of_units, HUGE, 0, LIMIT + 1)


class PlanTest(unittest.TestCase):
    def test_example(self):
        self.assertIs(is_plan(S, (3, 3, 0)), True)
        self.assertIs(fits(S, (3, 3, 0)), False)
        self.assertEqual(broken_groups(S, (3, 3, 0)), ((0, "most"), (1, "most")))
        self.assertEqual(gain_of(S, (2, 1, 1)), 17)
        with self.assertRaises(NoPlan):
            broken_groups(S, (4, 0, 0))

    def test_no_plans(self):
        wrong = [*ODD_VALUES, (), (0,), (0, 0), (0, 0, 0, 0), [0, 0, 0], (4, 0, 0), (0, 4, 0), (0, 0, 4)]
        wrong.extend([(-1, 0, 0), (0, -1, 0), (0, 0, -1), "000", {0: 0, 1: 0, 2: 0}, ((0, 0, 0),)])
        for number in ODD_NUMBERS:
            wrong.extend([(number, 0, 0), (2, number, 0), (2, 0, number)])
        for value in wrong:
            with self.subTest(value=value):
                held = copy.deepcopy(value)
                self.assertIs(is_plan(S, value), False)
                self.assertIs(fits(S, value), False)
                for function in (broken_groups, gain_of):
                    with self.assertRaises(NoPlan) as caught:
                        function(S, value)
                    self.assertIs(type(caught.exception), NoPlan)
                self.assertEqual(value, held)

    def test_capacity_0(self):
        self.assertIs(is_plan((((),), ()), (0,)), True)
        self.assertIs(is_plan((((),), ()), (1,)), False)

    def test_fits_at_the_limits(self):
        self.assertEqual(broken_groups(S, (0, 1, 0)), ((1, "least"),))
        self.assertEqual(broken_groups(S, (0, 2, 0)), ())
        self.assertEqual(broken_groups(S, (0, 3, 1)), ())
        self.assertEqual(broken_groups(S, (1, 2, 2)), ((1, "most"),))
        self.assertEqual(broken_groups(S, (2, 2, 0)), ((0, "most"),))

    def test_least_and_most(self):
        system = (((), ((9, 1),), ((9, 2),)), (((1, 2), 0, 3), ((0,), 1, 2), ((2,), 5, 6)))
        self.assertEqual(broken_groups(system, (0, 1, 3)), ((0, "most"), (1, "least"), (2, "least")))
        self.assertEqual(broken_groups(system, (0, 0, 7)), ((0, "most"), (1, "least"), (2, "most")))

    def test_no_groups(self):
        system = ((((2, 1),), ((2, 1),)), ())
        for plan in all_plans(system):
            self.assertIs(fits(system, plan), True)
            self.assertEqual(broken_groups(system, plan), ())

    def test_no_plan_fits(self):
        for plan in all_plans(N):
            self.assertIs(is_plan(N, plan), True)
            self.assertIs(fits(N, plan), False)
            self.assertEqual(broken_groups(N, plan), ((0, "least"),))

    def test_all_small_plans(self):
        for system in small_systems(80):
            for plan in all_plans(system):
                self.assertIs(is_plan(system, plan), True)
                self.assertIs(fits(system, plan), keeps_limits(system, plan))
                self.assertEqual(broken_groups(system, plan) == (), keeps_limits(system, plan))
                gains = []
                for steps, units in zip(system[0], plan):
                    gains.extend([gain for count, gain in steps for unit in range(count)][:units])
                self.assertEqual(gain_of(system, plan), sum(gains))

    def test_results_are_tuples(self):
        self.assertIs(type(broken_groups(S, (3, 3, 0))), tuple)
        self.assertIs(type(broken_groups(S, (3, 3, 0))[0]), tuple)
        self.assertIs(type(broken_groups(S, (2, 0, 0))), tuple)

    def test_huge(self):
        self.assertEqual(broken_groups(HUGE, (LIMIT // 4, LIMIT // 4, 0, 10, 0, 4)), ())
        self.assertEqual(
            broken_groups(HUGE, (LIMIT // 4 + 1, LIMIT, LIMIT, 9, 0, 5)),
            ((0, "most"), (1, "most"), (2, "most"), (3, "most"), (4, "least"), (5, "most")),
        )
        self.assertEqual(gain_of(HUGE, (LIMIT, LIMIT, 0, LIMIT, 0, 5)), 10 * LIMIT - 1 + 25)


if __name__ == "__main__":
    unittest.main()
