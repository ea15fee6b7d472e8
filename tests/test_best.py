"""[20] to [24] and [3] (c): greatest gains, best plans, and both for each total."""

import copy
import unittest

from groupcaps.best import best_plan, gain_at, gain_steps, greatest_gain, plan_at
from groupcaps.errors import NoTotal
from groupcaps.systems import fits, gain_of
from groupcaps.totals import totals_of
from samples import (
    HUGE,
    LIMIT,
    MAX_GAIN,
    ODD_NUMBERS,
    ODD_VALUES,
    S,
    T,
    after_move,
    exchanges_with_plans,
    expect_error,
    expect_no_fit,
    fitting_facts,
    fitting_large_systems,
    grown,
    unfit_systems,
    within,
)


class BestTest(unittest.TestCase):
    def test_examples(self):
        self.assertEqual(greatest_gain(S), 17)
        self.assertEqual(best_plan(S), (2, 1, 1))
        self.assertEqual(best_plan(T), (0, 2))
        self.assertEqual(gain_at(S, 3), 14)
        self.assertEqual(gain_steps(S), (2, 10, ((1, 4), (1, 3))))

    def test_no_groups(self):
        system = ((((2, 3), (1, 0), (4, -1)), ((1, -2),), ()), ())
        self.assertEqual(greatest_gain(system), 6)
        self.assertEqual(best_plan(system), (2, 0, 0))
        self.assertEqual(gain_steps(system), (0, 0, ((2, 3), (1, 0), (4, -1), (1, -2))))
        self.assertEqual((gain_at(system, 8), plan_at(system, 8)), (0, (7, 1, 0)))

    def test_only_losses(self):
        system = ((((5, -2),), ((5, -3),)), (((0, 1), 3, 9), ((0,), 0, 2)))
        self.assertEqual(greatest_gain(system), -7)
        self.assertEqual(best_plan(system), (2, 1))
        self.assertEqual(gain_steps(system), (3, -7, ((4, -3),)))

    def test_capacity_0(self):
        for system in ((((),), ()), (((), ()), (((0, 1), 0, 0),))):
            self.assertEqual(greatest_gain(system), 0)
            self.assertEqual(best_plan(system), (0,) * len(system[0]))
            self.assertEqual(gain_steps(system), (0, 0, ()))
            self.assertEqual((gain_at(system, 0), plan_at(system, 0)), (0, best_plan(system)))

    def test_one_total(self):
        system = ((((9, 1),), ((9, 4),)), (((0, 1), 7, 7), ((1,), 0, 3)))
        self.assertEqual(gain_steps(system), (7, 16, ()))
        self.assertEqual(plan_at(system, 7), (4, 3))

    def test_units_that_gain_nothing(self):
        # Giving them or not is equally good; the first plan in tuple order gives none of them.
        system = ((((2, 0),), ((3, 0),)), (((0, 1), 1, 4),))
        self.assertEqual((greatest_gain(system), best_plan(system)), (0, (0, 1)))
        self.assertEqual(gain_steps(system), (1, 0, ((3, 0),)))

    def test_equal_gains_are_one_step(self):
        system = ((((2, 3), (1, 1)), ((1, 3), (5, 1)), ((4, 3),)), (((1, 2), 0, 4),))
        self.assertEqual(gain_steps(system), (0, 0, ((6, 3), (1, 1))))

    def test_against_all_plans(self):
        for facts in fitting_facts():
            with self.subTest(system=facts.system):
                self.assertEqual(greatest_gain(facts.system), facts.gains[facts.best[0]])
                self.assertEqual(best_plan(facts.system), facts.best[0])
                self.assertIs(type(best_plan(facts.system)), tuple)

    def test_totals_against_all_plans(self):
        several = 0
        for facts in fitting_facts():
            with self.subTest(system=facts.system):
                for total in facts.totals:
                    best = facts.best_with(total)
                    several += len(best) > 1
                    self.assertEqual(gain_at(facts.system, total), facts.gains[best[0]])
                    self.assertEqual(plan_at(facts.system, total), best[0])
        self.assertGreater(several, 100)

    def test_steps_against_all_plans(self):
        for facts in fitting_facts():
            with self.subTest(system=facts.system):
                low, gain, steps = gain_steps(facts.system)
                self.assertEqual(low, facts.totals[0])
                units = [each for count, each in steps for unit in range(count)]
                self.assertEqual(len(units), facts.totals[-1] - low)
                for total in facts.totals:
                    best = facts.best_with(total)
                    self.assertEqual(gain + sum(units[: total - low]), facts.gains[best[0]])
                self.check_steps(steps)

    def check_steps(self, steps):
        self.assertIs(type(steps), tuple)
        for step in steps:
            self.assertIs(type(step), tuple)
            self.assertEqual([type(number) for number in step], [int, int])
            self.assertGreater(step[0], 0)
        gains = [gain for count, gain in steps]
        self.assertEqual(gains, sorted(set(gains), reverse=True))

    def test_no_plan_fits(self):
        self.assertGreater(len(unfit_systems()), 50)
        for system in unfit_systems():
            for function in (greatest_gain, best_plan, gain_steps):
                expect_no_fit(self, function, system)
            for total in (0, 1, *ODD_NUMBERS):
                expect_no_fit(self, gain_at, system, total)
                expect_no_fit(self, plan_at, system, total)

    def test_no_total(self):
        for system, low, high in ((S, 2, 4), (T, 0, 2), ((((),), ()), 0, 0), (HUGE, LIMIT // 2 + 10, LIMIT + 4)):
            self.assertEqual(totals_of(system), (low, high))
            for total in (*ODD_NUMBERS, *ODD_VALUES, low - 1, high + 1, -LIMIT, 10 ** 20, str(low), [low], (low,)):
                held = copy.deepcopy(total)
                for function in (gain_at, plan_at):
                    expect_error(self, NoTotal, {"total": total}, function, system, total)
                self.assertEqual(total, held)
            for total in (low, high):
                self.assertEqual(gain_of(system, plan_at(system, total)), gain_at(system, total))

    def test_same_again(self):
        for facts in fitting_facts()[:20]:
            for function in (greatest_gain, best_plan, gain_steps):
                self.assertEqual(function(facts.system), function(facts.system))


class LargeTest(unittest.TestCase):
    def check_plan(self, system, plan, exchanges):
        """The plan fits, and none of these exchanges leads to one that fits and gains more."""
        self.assertTrue(fits(system, plan))
        for exchange, after in exchanges_with_plans(plan).items():
            if exchange[0] in exchanges and fits(system, after):
                self.assertLessEqual(gain_of(system, after), gain_of(system, plan))
        for one in range(len(plan)):
            for other in range(one + 1, len(plan)):
                # Otherwise an equally good plan would stand before this one.
                after = after_move(plan, one, other)
                if fits(system, after):
                    self.assertLess(gain_of(system, after), gain_of(system, plan))

    def test_large_systems(self):
        systems = fitting_large_systems()
        self.assertGreater(len(systems), 40)
        for system in systems:
            with self.subTest(system=system), within(1):
                plan = best_plan(system)
                self.check_plan(system, plan, ("more", "less", "move"))
                self.assertEqual(gain_of(system, plan), greatest_gain(system))
                self.check_totals(system)

    def check_totals(self, system):
        low, gain, steps = gain_steps(system)
        high = low + sum(count for count, each in steps)
        self.assertEqual((low, high), totals_of(system))
        self.assertEqual([each for count, each in steps], sorted(set(each for count, each in steps), reverse=True))
        total = low
        for count, each in ((0, 0), *steps):
            # The gain grows by the same amount with each unit of the step, also in its middle.
            middle = plan_at(system, total + count // 2)
            self.check_plan(system, middle, ("move",))
            self.assertEqual((sum(middle), gain_of(system, middle)), (total + count // 2, gain + count // 2 * each))
            total += count
            gain += count * each
            self.assertEqual(gain_at(system, total), gain)

    def test_grown_systems(self):
        for facts in fitting_facts():
            with self.subTest(system=facts.system):
                system = grown(facts.system, 10 ** 10)
                self.assertEqual(best_plan(system), tuple(units * 10 ** 10 for units in facts.best[0]))
                self.assertEqual(greatest_gain(system), facts.gains[facts.best[0]] * 10 ** 10)
                low, gain, steps = gain_steps(facts.system)
                more = tuple((count * 10 ** 10, each) for count, each in steps)
                self.assertEqual(gain_steps(system), (low * 10 ** 10, gain * 10 ** 10, more))
                total = facts.totals[-1]
                first = tuple(units * 10 ** 10 for units in facts.best_with(total)[0])
                self.assertEqual(plan_at(system, total * 10 ** 10), first)

    def test_totals_above_the_limit(self):
        system = ((((LIMIT, 3),), ((LIMIT, 3),), ((LIMIT, -MAX_GAIN),)), ())
        with within(1):
            self.assertEqual(plan_at(system, 2 * LIMIT + 1), (LIMIT, LIMIT, 1))
            self.assertEqual(gain_at(system, 3 * LIMIT), 6 * LIMIT - LIMIT * MAX_GAIN)
            self.assertEqual(plan_at(system, LIMIT + 5), (5, LIMIT, 0))
            self.assertEqual(gain_steps(system), (0, 0, ((2 * LIMIT, 3), (LIMIT, -MAX_GAIN))))

    def test_thousand_calls(self):
        five = tuple((LIMIT // 5, gain) for gain in (2, 1, 0, -1, -2))
        groups = tuple((tuple(range(many)), many, many * LIMIT // 8) for many in range(1, 7))
        system = ((five,) * 6, (*groups, ((4,), 5, 9), ((5,), 5, LIMIT)))
        for function in (greatest_gain, best_plan, gain_steps):
            with within(10):
                self.assertEqual(len(set(function(system) for number in range(1000))), 1)
        for function in (gain_at, plan_at):
            with within(10):
                self.assertEqual(len(set(function(system, LIMIT // 2) for number in range(1000))), 1)


if __name__ == "__main__":
    unittest.main()
