"""[32] to [39] and [3] (d): ranges, the order of all best plans, and ways between them."""

import copy
import inspect
import unittest
from itertools import islice, product

from groupcaps.best import best_plan, greatest_gain
from groupcaps.errors import NoItem, NoPlan, TooMany
from groupcaps.ranges import count_best, distance, is_way, next_best, unit_range, walk_best, way_between
from groupcaps.systems import fits, gain_of
from samples import (
    HUGE,
    LIMIT,
    N,
    ODD_NUMBERS,
    ODD_VALUES,
    S,
    T,
    UNFIT,
    all_plans,
    exchanges_with_plans,
    expect_error,
    expect_no_fit,
    fitting_facts,
    fitting_large_systems,
    grown,
    unfit_systems,
    within,
)

# Six items that gain the same, with groups within groups; very many plans are best.
WIDE = (
    (((LIMIT, 2),),) * 6,
    (((0, 1, 2, 3, 4, 5), 9, LIMIT), ((0, 1, 2), 7, LIMIT // 2), ((1, 2), 5, LIMIT // 3), ((4, 5), 3, LIMIT // 4)),
)


def pair_with(units):
    """A system with two items in which the plans with this total are best; there is one more than units."""
    return ((((units, 3),), ((units, 3),)), (((0, 1), 0, units),))


def is_best(system, plan):
    return fits(system, plan) and gain_of(system, plan) == greatest_gain(system)


class UnitRangeTest(unittest.TestCase):
    def test_examples(self):
        self.assertEqual(unit_range(T, 0), (0, 2))
        self.assertEqual(unit_range(S, 1), (1, 1))

    def test_units_that_gain_nothing(self):
        system = ((((2, 3), (4, 0), (1, -1)), ((3, 0),), ()), (((0, 1), 3, 5),))
        self.assertEqual([unit_range(system, item) for item in range(3)], [(2, 5), (0, 3), (0, 0)])

    def test_against_all_plans(self):
        for facts in fitting_facts():
            for item in range(len(facts.system[0])):
                with self.subTest(system=facts.system, item=item):
                    units = sorted(set(plan[item] for plan in facts.best))
                    self.assertEqual(unit_range(facts.system, item), (units[0], units[-1]))
                    self.assertIs(type(unit_range(facts.system, item)), tuple)
                    self.assertEqual(units, list(range(units[0], units[-1] + 1)))

    def test_grown_systems(self):
        for facts in fitting_facts():
            system = grown(facts.system, 10 ** 10)
            for item in range(len(system[0])):
                units = [plan[item] * 10 ** 10 for plan in facts.best]
                self.assertEqual(unit_range(system, item), (min(units), max(units)))

    def test_large_systems(self):
        for system in [*fitting_large_systems(), WIDE]:
            for item in range(6):
                with self.subTest(system=system, item=item), within(1):
                    self.check_ends(system, item, *unit_range(system, item))

    def check_ends(self, system, item, least, greatest):
        """Some best plans have the units at the ends, and none has units just beyond them."""
        items, groups = system
        others = tuple(group for group in groups if group[0] != (item,))
        limits = [group[1:] for group in groups if group[0] == (item,)] or [(0, LIMIT)]
        for units, right in ((least, True), (greatest, True), (least - 1, False), (greatest + 1, False)):
            if limits[0][0] <= units <= limits[0][1]:
                gain = self.gain_or_none((items, (*others, ((item,), units, units))))
                self.assertIs(gain == greatest_gain(system), right)

    def gain_or_none(self, system):
        try:
            return greatest_gain(system)
        except ValueError:
            return None

    def test_wide(self):
        self.assertEqual(unit_range(WIDE, 0), (0, LIMIT // 2 - 5))
        self.assertEqual(unit_range(WIDE, 1), (0, LIMIT // 3))
        self.assertEqual(unit_range(WIDE, 3), (LIMIT // 4, LIMIT - 10))
        self.assertEqual(unit_range(WIDE, 5), (0, LIMIT // 4))

    def test_no_item(self):
        for item in (*ODD_NUMBERS, *ODD_VALUES, 3, 4, 6):
            held = copy.deepcopy(item)
            expect_error(self, NoItem, {"item": item}, unit_range, S, item)
            self.assertEqual(item, held)
        expect_error(self, NoItem, {"item": 2}, unit_range, T, 2)

    def test_no_item_before_no_fit(self):
        for system in unfit_systems():
            for item in (*ODD_NUMBERS, len(system[0])):
                expect_error(self, NoItem, {"item": item}, unit_range, system, item)
            expect_no_fit(self, unit_range, system, 0)
            expect_no_fit(self, unit_range, system, len(system[0]) - 1)


class OrderTest(unittest.TestCase):
    def test_examples(self):
        self.assertEqual(next_best(T, (1, 1)), (2, 0))
        expect_error(self, NoPlan, {}, next_best, T, (0, 1))
        self.assertEqual(list(walk_best(T)), [(0, 2), (1, 1), (2, 0)])
        self.assertEqual(count_best(T), 3)

    def test_against_all_plans(self):
        for facts in fitting_facts():
            with self.subTest(system=facts.system):
                self.assertEqual(list(walk_best(facts.system)), facts.best)
                self.assertEqual(count_best(facts.system), len(facts.best))
                for plan, after in zip(facts.best, [*facts.best[1:], None]):
                    self.assertEqual(next_best(facts.system, plan), after)
                for plan in all_plans(facts.system):
                    if plan not in facts.best:
                        expect_error(self, NoPlan, {}, next_best, facts.system, plan)

    def test_plans_are_tuples(self):
        self.assertEqual([type(plan) for plan in walk_best(T)], [tuple] * 3)
        self.assertIs(type(next_best(T, (1, 1))), tuple)

    def test_walk_is_a_generator(self):
        for system in (T, N, WIDE):
            self.assertTrue(inspect.isgenerator(walk_best(system)))
        walk = walk_best(T)
        self.assertEqual((next(walk), list(walk_best(T)), next(walk)), ((0, 2), [(0, 2), (1, 1), (2, 0)], (1, 1)))

    def test_first_plans_of_very_many(self):
        for system in (WIDE, (WIDE[0], ()), ((((LIMIT, 0),),) * 6, ())):
            with within(1):
                plans = list(islice(walk_best(system), 50))
            self.assertEqual(plans, sorted(set(plans)))
            self.assertEqual(plans[0], best_plan(system))
            for plan, after in zip(plans, plans[1:]):
                self.assertTrue(is_best(system, plan))
                self.assertEqual(next_best(system, plan), after)
        self.assertEqual(plans[:2] + plans[-1:], [(0,) * 6, (0, 0, 0, 0, 0, 1), (0, 0, 0, 0, 0, 49)])

    def test_next_far_from_the_first(self):
        half = LIMIT // 2
        system = pair_with(LIMIT)
        with within(1):
            self.assertEqual(next_best(system, (half, half)), (half + 1, half - 1))
            self.assertEqual(next_best(system, (LIMIT - 1, 1)), (LIMIT, 0))
            self.assertIsNone(next_best(system, (LIMIT, 0)))
            # When the last items have no more units to get, they begin anew.
            self.assertEqual(next_best(((((5, 0),), ((LIMIT, 0),)), ()), (2, LIMIT)), (3, 0))

    def test_order_in_large_systems(self):
        for system in fitting_large_systems():
            with self.subTest(system=system), within(1):
                plans = list(islice(walk_best(system), 20))
                self.assertEqual(plans[0], best_plan(system))
                self.assertEqual(plans, sorted(set(plans)))
                for plan, after in zip(plans, plans[1:]):
                    self.assertTrue(is_best(system, plan))
                    self.assertEqual(next_best(system, plan), after)
                if len(plans) < 20:
                    self.assertIsNone(next_best(system, plans[-1]))
                    self.assertEqual(count_best(system), len(plans))

    def test_no_plan_fits(self):
        for system in unfit_systems():
            self.assertEqual(list(walk_best(system)), [])
            expect_no_fit(self, count_best, system)
            for plan in [*islice(all_plans(system), 5), None, []]:
                expect_error(self, NoPlan, {}, next_best, system, plan)

    def test_no_best_plan(self):
        # The first ones fit, but others gain more.
        for plan in ((2, 0, 1), (3, 0, 1), (0, 3, 1), *UNFIT, *ODD_NUMBERS):
            held = copy.deepcopy(plan)
            expect_error(self, NoPlan, {}, next_best, S, plan)
            self.assertEqual(plan, held)
        self.assertIsNone(next_best(S, (2, 1, 1)))

    def test_plans_with_more_gain_that_do_not_fit(self):
        expect_error(self, NoPlan, {}, next_best, S, (3, 3, 1))
        expect_error(self, NoPlan, {}, next_best, T, (2, 2))

    def test_as_many_as_are_listed(self):
        self.assertEqual(count_best(pair_with(998)), 999)
        self.assertEqual(count_best(pair_with(999)), 1000)
        for units in (1000, 1001, LIMIT):
            with within(1), self.assertRaises(TooMany) as caught:
                count_best(pair_with(units))
            self.assertIs(type(caught.exception), TooMany)
            self.assertEqual(caught.exception.limit, 1000)
        with within(1):
            self.assertRaises(TooMany, count_best, WIDE)

    def test_thousand_calls(self):
        five = tuple((LIMIT // 5, gain) for gain in (2, 1, 0, -1, -2))
        groups = tuple((tuple(range(many)), many, many * LIMIT // 8) for many in range(1, 7))
        system = ((five,) * 6, (*groups, ((4,), 5, 9), ((5,), 5, LIMIT)))
        plan = best_plan(system)
        with within(10):
            self.assertEqual(len(set(unit_range(system, 2) for number in range(1000))), 1)
        with within(10):
            self.assertEqual(len(set(next_best(system, plan) for number in range(1000))), 1)
        with within(10):
            for number in range(1000):
                self.assertEqual(next(walk_best(system)), plan)

    def test_one_best_plan(self):
        for system in (S, (((),), ()), HUGE):
            self.assertEqual((count_best(system), list(walk_best(system))), (1, [best_plan(system)]))


class DistanceTest(unittest.TestCase):
    def test_examples(self):
        self.assertEqual(distance((0, 2), (2, 0)), 2)
        self.assertEqual(distance((0, 0), (2, 1)), 3)

    def test_both_sums(self):
        self.assertEqual(distance((5, 1, 1), (0, 2, 3)), 5)
        self.assertEqual(distance((0, 2, 3), (5, 1, 1)), 5)
        self.assertEqual(distance((4, 4), (0, 1)), 7)
        self.assertEqual(distance((3,), (3,)), 0)
        self.assertEqual(distance((LIMIT, 0, LIMIT), (0, LIMIT, 0)), 2 * LIMIT)

    def test_is_the_number_of_exchanges(self):
        plans = list(product(range(3), repeat=3))
        for start in plans:
            reached = {start: 0}
            queue = [start]
            for plan in queue:
                for after in exchanges_with_plans(plan).values():
                    if after in plans and after not in reached:
                        reached[after] = reached[plan] + 1
                        queue.append(after)
            self.assertEqual({plan: distance(start, plan) for plan in plans}, reached)


class WayTest(unittest.TestCase):
    def check(self, system, first, last, way):
        """The way is one by the words of the document, and as short as the distance."""
        self.assertIs(type(way), tuple)
        self.assertEqual((way[0], way[-1]), (first, last))
        self.assertEqual(len(way), distance(first, last) + 1)
        for plan, after in zip(way, way[1:]):
            self.assertIn(after, exchanges_with_plans(plan).values())
        for plan in way:
            self.assertIs(type(plan), tuple)
            self.assertTrue(is_best(system, plan))

    def test_example(self):
        self.assertEqual(way_between(T, (0, 2), (2, 0)), ((0, 2), (1, 1), (2, 0)))
        self.assertEqual(way_between(T, (1, 1), (1, 1)), ((1, 1),))
        self.assertIs(is_way(T, (0, 2), (1, 1), ((0, 2), (1, 1), (2, 0), (1, 1))), True)

    def test_pairs_of_best_plans(self):
        lengths = []
        for facts in fitting_facts():
            ends = facts.best if len(facts.best) < 12 else facts.best[:6] + facts.best[-6:]
            for first, last in product(ends, repeat=2):
                with self.subTest(system=facts.system, first=first, last=last):
                    way = way_between(facts.system, first, last)
                    self.check(facts.system, first, last, way)
                    self.assertTrue(set(way) <= set(facts.best))
                    self.assertIs(is_way(facts.system, first, last, way), True)
                    self.assertIs(is_way(facts.system, last, first, way[::-1]), True)
                    lengths.append(len(way))
        self.assertGreater(max(lengths), 6)

    def test_totals_that_differ(self):
        system = ((((4, 0),), ((4, 0),), ((4, 0),)), (((0, 1), 1, 6),))
        for first, last in (((0, 1, 0), (4, 2, 4)), ((4, 2, 0), (0, 3, 4)), ((4, 0, 4), (0, 4, 0)), ((4, 1, 4), (0, 1, 0))):
            self.check(system, first, last, way_between(system, first, last))
            self.check(system, last, first, way_between(system, last, first))

    def test_large_systems(self):
        for system in [*fitting_large_systems(), WIDE]:
            plans = list(islice(walk_best(system), 15))
            with self.subTest(system=system):
                with within(1):
                    way = way_between(system, plans[0], plans[-1])
                self.check(system, plans[0], plans[-1], way)

    def test_as_far_as_is_listed(self):
        for units in (999, 1000):
            with within(1):
                way = way_between(pair_with(units), (0, units), (units, 0))
            self.assertEqual(way, tuple((start, units - start) for start in range(units + 1)))
            self.assertIs(is_way(pair_with(units), (0, units), (units, 0), way), True)
        far = pair_with(LIMIT)
        for units in (1001, 10 ** 6, LIMIT):
            with within(1), self.assertRaises(TooMany) as caught:
                way_between(far, (0, LIMIT), (units, LIMIT - units))
            self.assertIs(type(caught.exception), TooMany)
            self.assertEqual(caught.exception.limit, 1000)
        with within(1):
            self.assertEqual(len(way_between(far, (0, LIMIT), (1000, LIMIT - 1000))), 1001)

    def test_long_way_in_nested_groups(self):
        middle = LIMIT // 5
        first = (middle, 300, middle, 2 * middle - 300, middle, 0)
        last = (middle + 400, 100, middle + 100, 2 * middle - 600, middle - 250, 250)
        for start, end in ((first, last), (last, first)):
            with within(1):
                way = way_between(WIDE, start, end)
            self.check(WIDE, start, end, way)

    def test_no_plan(self):
        wrong = [(0, 1), (2, 2), (0, 3), [0, 2], (0, 2, 0), (2,), (True, 1), (1, True), (False, 2), "02", None]
        for plan in [*wrong, *ODD_VALUES, *ODD_NUMBERS]:
            held = copy.deepcopy(plan)
            for first, last in ((plan, (0, 2)), ((0, 2), plan), (plan, plan)):
                expect_error(self, NoPlan, {}, way_between, T, first, last)
                for value in (((0, 2),), None, (plan,)):
                    expect_error(self, NoPlan, {}, is_way, T, first, last, value)
            self.assertEqual(plan, held)

    def test_no_plan_before_too_many(self):
        far = pair_with(LIMIT)
        expect_error(self, NoPlan, {}, way_between, far, (0, LIMIT), (LIMIT, LIMIT))
        expect_error(self, NoPlan, {}, way_between, far, (0, 0), (LIMIT, 0))

    def test_no_plan_where_none_fits(self):
        for system in unfit_systems()[:40]:
            for plan in islice(all_plans(system), 10):
                expect_error(self, NoPlan, {}, way_between, system, plan, plan)
                expect_error(self, NoPlan, {}, is_way, system, plan, plan, (plan,))

    def test_ways_of_any_length(self):
        for way in (
            ((0, 2), (1, 1)),
            ((0, 2), (1, 1), (2, 0), (1, 1)),
            ((0, 2), (1, 1), (0, 2), (1, 1)),
            ((0, 2), (1, 1)) * 60,
        ):
            self.assertIs(is_way(T, (0, 2), (1, 1), way), True)
        self.assertIs(is_way(T, (1, 1), (1, 1), ((1, 1),)), True)
        self.assertIs(is_way(T, (1, 1), (1, 1), ((1, 1), (2, 0), (1, 1))), True)

    def test_no_ways(self):
        for value in (
            (),
            ((0, 2),),
            ((1, 1),),
            ((0, 2), (2, 0), (1, 1)),
            ((0, 2), (0, 2), (1, 1)),
            ((0, 2), (1, 1), (1, 1)),
            ((1, 1), (0, 2)),
            ((1, 1), (0, 2), (1, 1)),
            ((0, 2), (1, 1), (2, 0)),
            ((0, 2), (0, 1), (1, 1)),
            ((0, 2), (1, 2), (1, 1)),
            ((0, 2), [1, 1]),
            ([0, 2], (1, 1)),
            [(0, 2), (1, 1)],
            ((0, 2), (1, True)),
            ((False, 2), (1, 1)),
            ((0, 2), (True, 1), (0, 2), (1, 1)),
            ((0, 2), None, (1, 1)),
            ((0, 2), (1, 1), None),
            ((0, 2), (1,), (1, 1)),
            ((0, 2), (1, 1, 0), (1, 1)),
            {(0, 2): 0, (1, 1): 1},
            (((0, 2), (1, 1)),),
            *ODD_VALUES,
        ):
            held = copy.deepcopy(value)
            self.assertIs(is_way(T, (0, 2), (1, 1), value), False, value)
            self.assertEqual(value, held)

    def test_ways_through_changed_totals(self):
        system = ((((2, 0),), ((2, 0),)), ())
        self.assertIs(is_way(system, (0, 0), (2, 0), ((0, 0), (1, 0), (2, 0))), True)
        self.assertIs(is_way(system, (0, 0), (2, 0), ((0, 0), (0, 1), (1, 0), (2, 0))), True)
        self.assertIs(is_way(system, (0, 0), (2, 0), ((0, 0), (1, 1), (2, 0))), False)
        self.assertIs(is_way(system, (0, 2), (2, 0), ((0, 2), (1, 1), (2, 1), (2, 0))), True)

    def test_against_the_words(self):
        for facts in fitting_facts()[:200]:
            if len(facts.best) > 1:
                ends = (facts.best[0], facts.best[-1])
                for middle in facts.plans[:30]:
                    for value in ((ends[0], middle, ends[1]), (middle, ends[1]), (ends[0], middle)):
                        right = value[0] == ends[0] and value[-1] == ends[1] and middle in facts.best
                        steps = [after in exchanges_with_plans(plan).values() for plan, after in zip(value, value[1:])]
                        self.assertIs(is_way(facts.system, *ends, value), right and all(steps))


if __name__ == "__main__":
    unittest.main()
