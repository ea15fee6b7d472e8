"""[40] to [43] and [3] (e): even plans and moves that even."""

import copy
import unittest
from itertools import product

from groupcaps.errors import NoPlan, NoTotal
from groupcaps.even import even_plan, evening_move, is_as_even
from groupcaps.systems import fits
from groupcaps.totals import totals_of
from samples import (
    HUGE,
    LIMIT,
    ODD_NUMBERS,
    ODD_VALUES,
    S,
    T,
    UNFIT,
    all_plans,
    exchanges_with_plans,
    expect_error,
    expect_no_fit,
    fitting_facts,
    fitting_large_systems,
    plainly_as_even,
    unfit_systems,
    within,
)

SIX = (((LIMIT, 1),),) * 6


class AsEvenTest(unittest.TestCase):
    def test_examples(self):
        self.assertIs(is_as_even((1, 1), (0, 2)), True)
        self.assertIs(is_as_even((0, 2), (1, 1)), False)

    def test_order_of_the_items_does_not_count(self):
        self.assertIs(is_as_even((0, 2), (2, 0)), True)
        self.assertIs(is_as_even((3, 1, 2), (2, 3, 1)), True)

    def test_neither_is_as_even(self):
        self.assertIs(is_as_even((4, 1, 1), (3, 3, 0)), False)
        self.assertIs(is_as_even((3, 3, 0), (4, 1, 1)), False)

    def test_totals_that_differ(self):
        self.assertIs(is_as_even((0, 0), (0, 1)), False)
        self.assertIs(is_as_even((0, 1), (0, 0)), False)
        self.assertIs(is_as_even((1, 1), (1, 2)), False)

    def test_one_item(self):
        self.assertIs(is_as_even((5,), (5,)), True)
        self.assertIs(is_as_even((5,), (6,)), False)

    def test_by_the_words(self):
        for many in (2, 3, 4):
            for one, other in product(product(range(4), repeat=many), repeat=2):
                if many < 4 or one[0] == 3:
                    right = sum(one) == sum(other) and plainly_as_even(one, other)
                    self.assertIs(is_as_even(one, other), right)

    def test_large(self):
        self.assertIs(is_as_even((LIMIT, LIMIT - 2), (LIMIT - 1, LIMIT - 1)), False)
        self.assertIs(is_as_even((LIMIT - 1, LIMIT - 1), (LIMIT, LIMIT - 2)), True)


class EvenPlanTest(unittest.TestCase):
    def check(self, system, total, expected):
        """The units, in falling order, are the expected ones; no move evens the plan."""
        with within(1):
            plan = even_plan(system, total)
            self.assertIs(type(plan), tuple)
            self.assertTrue(fits(system, plan))
            self.assertEqual(sum(plan), total)
            self.assertEqual(sorted(plan, reverse=True), expected)
            self.assertIsNone(evening_move(system, plan))
            self.assertEqual(even_plan(system, total), plan)

    def test_examples(self):
        self.assertEqual(even_plan(T, 2), (1, 1))
        expect_error(self, NoTotal, {"total": 3}, even_plan, T, 3)

    def test_no_groups(self):
        self.check((SIX, ()), 0, [0] * 6)
        self.check((SIX, ()), 20, [4, 4, 3, 3, 3, 3])
        self.check((SIX, ()), 6 * LIMIT, [LIMIT] * 6)
        self.check((SIX, ()), 6 * LIMIT - 1, [LIMIT] * 5 + [LIMIT - 1])
        self.check((((),), ()), 0, [0])

    def test_capacities(self):
        # Even plans do not ask for gains.
        system = ((((1, 1),), (), ((2, 5), (3, -5)), ((90, 0),)), ())
        self.check(system, 3, [1, 1, 1, 0])
        self.check(system, 10, [5, 4, 1, 0])
        self.check(system, 13, [7, 5, 1, 0])
        self.check(system, 96, [90, 5, 1, 0])

    def test_most_of_groups(self):
        system = (SIX, (((0, 1), 0, 5), ((0, 1, 2), 0, 7)))
        self.check(system, 12, [2] * 6)
        self.check(system, 18, [4, 4, 3, 3, 2, 2])
        self.check(system, 100, [31] * 3 + [3, 2, 2])
        self.check(system, 3 * LIMIT + 7, [LIMIT] * 3 + [3, 2, 2])

    def test_least_of_groups(self):
        system = (SIX, (((0, 1), 11, LIMIT), ((0, 1, 2), 20, LIMIT), ((5,), 4, 9)))
        self.check(system, 24, [7, 7, 6, 4, 0, 0])
        self.check(system, 30, [7, 7, 6, 4, 3, 3])
        self.check(system, 42, [7] * 6)

    def test_most_and_least(self):
        system = (SIX, (((0, 1, 2), 0, 9), ((0,), 6, 7), ((3, 4, 5), 0, 60), ((3, 4), 40, 50)))
        self.check(system, 46, [20, 20, 6, 0, 0, 0])
        self.check(system, 49, [20, 20, 6, 1, 1, 1])
        self.check(system, 69, [20, 20, 20, 6, 2, 1])

    def test_against_all_plans(self):
        several = 0
        for facts in fitting_facts():
            for total in facts.totals:
                with self.subTest(system=facts.system, total=total):
                    others = facts.plans_with(total)
                    with within(1):
                        plan = even_plan(facts.system, total)
                    self.assertIn(plan, others)
                    self.assertTrue(all(plainly_as_even(plan, other) for other in others))
                    several += len(others) > 1
        self.assertGreater(several, 100)

    def test_large_systems(self):
        for system in fitting_large_systems():
            low, high = totals_of(system)
            for total in (low, low + 1, (low + high) // 2, high):
                if total <= high:
                    with self.subTest(system=system, total=total):
                        self.check(system, total, sorted(even_plan(system, total), reverse=True))

    def test_levels_in_large_systems(self):
        self.check((SIX, (((0, 1), 0, LIMIT // 3),)), LIMIT, [LIMIT // 6 + 1] * 4 + [LIMIT // 6] * 2)
        self.check((SIX, (((0, 1), 0, LIMIT // 4),)), LIMIT, [3 * LIMIT // 16] * 4 + [LIMIT // 8] * 2)
        self.check((SIX, (((0, 1), LIMIT, LIMIT),)), LIMIT + 9, [LIMIT // 2] * 2 + [3, 2, 2, 2])

    def test_no_plan_fits(self):
        for system in unfit_systems():
            for total in (0, 1, *ODD_NUMBERS):
                expect_no_fit(self, even_plan, system, total)

    def test_no_total(self):
        for system, low, high in ((S, 2, 4), (T, 0, 2), ((((),), ()), 0, 0), (HUGE, LIMIT // 2 + 10, LIMIT + 4)):
            for total in (*ODD_NUMBERS, *ODD_VALUES, low - 1, high + 1, -LIMIT, 10 ** 20, str(low), [low], (low,)):
                held = copy.deepcopy(total)
                expect_error(self, NoTotal, {"total": total}, even_plan, system, total)
                self.assertEqual(total, held)

    def test_thousand_calls(self):
        chain = tuple((tuple(range(many)), many, many * LIMIT // 9) for many in range(1, 7))
        system = (SIX, (*chain, ((4,), 5, LIMIT // 99), ((5,), 7, LIMIT)))
        with within(10):
            self.assertEqual(len(set(even_plan(system, LIMIT // 2) for number in range(1000))), 1)


class EveningMoveTest(unittest.TestCase):
    def test_examples(self):
        self.assertEqual(evening_move(T, (0, 2)), ("move", 1, 0))
        self.assertIsNone(evening_move(T, (1, 1)))

    def test_two_units_more(self):
        free = ((((9, 1),), ((9, 1),)), ())
        self.assertIsNone(evening_move(free, (4, 5)))
        self.assertIsNone(evening_move(free, (5, 4)))
        self.assertEqual(evening_move(free, (4, 6)), ("move", 1, 0))
        self.assertEqual(evening_move(free, (6, 4)), ("move", 0, 1))
        self.assertEqual(evening_move(free, (9, 0)), ("move", 0, 1))

    def test_limits_bar_moves(self):
        items = (((9, 1),), ((9, 1),))
        self.assertIsNone(evening_move((items, (((0,), 7, 9),)), (7, 1)))
        self.assertIsNone(evening_move((items, (((1,), 0, 1),)), (7, 1)))
        self.assertEqual(evening_move((items, (((0,), 6, 9), ((1,), 0, 2))), (7, 1)), ("move", 0, 1))
        self.assertIsNone(evening_move(((((9, 1),), ((1, 1),)), ()), (7, 1)))

    def test_against_all_plans(self):
        moves = 0
        for facts in fitting_facts():
            for plan in facts.plans:
                with self.subTest(system=facts.system, plan=plan):
                    move = evening_move(facts.system, plan)
                    others = facts.plans_with(sum(plan))
                    even = all(plainly_as_even(plan, other) for other in others)
                    self.assertIs(move is None, even)
                    if move is not None:
                        self.check_move(facts, plan, move)
                        moves += 1
                    self.assertEqual(evening_move(facts.system, plan), move)
        self.assertGreater(moves, 500)

    def check_move(self, facts, plan, move):
        self.assertIs(type(move), tuple)
        word, item, other = move
        self.assertEqual(word, "move")
        self.assertGreaterEqual(plan[item] - plan[other], 2)
        self.assertIn(exchanges_with_plans(plan)[move], facts.plans)

    def test_no_plan(self):
        for plan in (*UNFIT, *ODD_NUMBERS):
            held = copy.deepcopy(plan)
            expect_error(self, NoPlan, {}, evening_move, S, plan)
            self.assertEqual(plan, held)

    def test_no_plan_where_none_fits(self):
        for system in unfit_systems()[:40]:
            for plan in all_plans(system):
                expect_error(self, NoPlan, {}, evening_move, system, plan)

    def test_large(self):
        plan = (LIMIT // 4, LIMIT // 2, 0, 10, 0, 4)
        with within(1):
            self.assertTrue(fits(HUGE, plan))
            move = evening_move(HUGE, plan)
            self.assertGreaterEqual(plan[move[1]] - plan[move[2]], 2)
            self.assertTrue(fits(HUGE, exchanges_with_plans(plan)[move]))


if __name__ == "__main__":
    unittest.main()
