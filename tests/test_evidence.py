"""[25] to [31] and [3] (b): prices, exchanges and judgements."""

import copy
import unittest
from itertools import product

from groupcaps.best import best_plan, greatest_gain, plan_at
from groupcaps.errors import NoExchange, NoPlan
from groupcaps.evidence import after_exchange, best_prices, is_gaining, is_judgement, judge, price_bound
from groupcaps.systems import gain_of
from groupcaps.totals import totals_of
from samples import (
    HUGE,
    LIMIT,
    MAX_GAIN,
    N,
    ODD_NUMBERS,
    ODD_VALUES,
    S,
    T,
    UNFIT,
    Numbers,
    all_plans,
    exchanges_with_plans,
    expect_error,
    expect_no_fit,
    fitting_facts,
    fitting_large_systems,
    gains_of_units,
    small_facts,
    unfit_systems,
    within,
)

# Values that are no exchange of three items.
NO_EXCHANGES = (
    *ODD_VALUES,
    *ODD_NUMBERS,
    "more",
    ("more",),
    ("more", 3),
    ("more", -1),
    ("more", True),
    ("more", "0"),
    ("more", (0,)),
    ("more", None),
    ("more", 0, 1),
    ("less", 0, 1),
    ("less", False),
    ("less", 3),
    ("less", 10 ** 12),
    ("move", 0),
    ("move", 0, 0),
    ("move", 2, 2),
    ("move", 0, 3),
    ("move", 3, 0),
    ("move", -1, 0),
    ("move", 0, -1),
    ("move", False, 1),
    ("move", 0, True),
    ("move", 0, None),
    ("move", [0], [1]),
    ("move", 0, 1, 2),
    ("More", 0),
    ("moved", 0, 1),
    ("move", (0, 1)),
    (None, 0),
    (["more"], 0),
    ({}, 0, 1),
    (0, "more"),
    ["more", 0],
    ["move", 0, 1],
    (("more", 0),),
    {"more": 0},
)


def plain_bound(system, prices):
    """[25], by its words."""
    items, groups = system
    bound = 0
    for item, gains in enumerate(items):
        price = sum(price for price, (members, least, most) in zip(prices, groups) if item in members)
        units = gains_of_units(gains)
        bound += max(sum(units[:many]) - price * many for many in range(len(units) + 1))
    for price, (members, least, most) in zip(prices, groups):
        bound += price * most if price > 0 else price * least
    return bound


class PriceTest(unittest.TestCase):
    def test_examples(self):
        self.assertEqual(price_bound(S, (3, 0)), 17)
        self.assertIsNone(price_bound(S, (3,)))

    def test_each_part_of_the_bound(self):
        system = ((((2, 5), (3, 1)), ((4, 2),)), (((0,), 1, 3), ((0, 1), 2, 5)))
        self.assertEqual(price_bound(system, (0, 0)), 21)
        self.assertEqual(price_bound(system, (1, 0)), 2 * 4 + 8 + 3)
        self.assertEqual(price_bound(system, (-1, 0)), 2 * 6 + 3 * 2 + 8 - 1)
        self.assertEqual(price_bound(system, (2, 1)), 2 * 2 + 4 + 6 + 5)
        self.assertEqual(price_bound(system, (0, -4)), 2 * 9 + 3 * 5 + 4 * 6 - 8)
        self.assertEqual(price_bound(system, (9, 9)), 27 + 45)

    def test_no_groups(self):
        self.assertEqual(price_bound(((((1, 2), (4, -1)), ()), ()), ()), 2)
        self.assertIsNone(price_bound(((((1, 2),), ()), ()), (0,)))
        self.assertEqual(best_prices(((((1, 2),), ()), ())), ())
        self.assertEqual(best_prices((((),), ())), ())

    def test_bounds_by_the_words(self):
        numbers = Numbers(31)
        for facts in small_facts():
            groups = len(facts.system[1])
            for number in range(6):
                prices = tuple(numbers.between(-4, 4) for group in range(groups))
                bound = price_bound(facts.system, prices)
                self.assertEqual(bound, plain_bound(facts.system, prices))
                for plan in facts.plans:
                    self.assertLessEqual(facts.gains[plan], bound)

    def test_long_prices(self):
        most = 10 ** 30 - 1
        for price in (most, -most, 10 ** 29, MAX_GAIN, -LIMIT):
            self.assertEqual(price_bound(T, (price,)), plain_bound(T, (price,)))
            self.assertEqual(price_bound(S, (price, -price)), plain_bound(S, (price, -price)))
        for price in (most + 1, -most - 1, 10 ** 31, 10 ** 99, -(10 ** 99)):
            self.assertIsNone(price_bound(T, (price,)))
            self.assertIsNone(price_bound(S, (price, 0)))
            self.assertIsNone(price_bound(S, (0, price)))

    def test_no_prices(self):
        for value in (*ODD_VALUES, (), (3,), (3, 0, 0), [3, 0], {0: 3, 1: 0}, "30", ((3, 0),), (True, 0), (3, False)):
            held = copy.deepcopy(value)
            self.assertIsNone(price_bound(S, value))
            self.assertEqual(value, held)
        for price in (None, True, "0", (0,), [0], {}, ()):
            self.assertIsNone(price_bound(S, (price, 0)))
            self.assertIsNone(price_bound(S, (0, price)))

    def test_prices_where_no_plan_fits(self):
        self.assertEqual(price_bound(N, (0,)), 10)
        self.assertEqual(price_bound(N, (-5,)), 20 - 15)

    def test_best_prices(self):
        for facts in fitting_facts():
            with self.subTest(system=facts.system):
                prices = best_prices(facts.system)
                self.check_form(facts.system, prices)
                self.assertEqual(plain_bound(facts.system, prices), facts.gains[facts.best[0]])

    def check_form(self, system, prices):
        self.assertIs(type(prices), tuple)
        self.assertEqual(len(prices), len(system[1]))
        for price in prices:
            self.assertIs(type(price), int)
            self.assertLess(abs(price), 10 ** 28)
        self.assertEqual(prices, best_prices(system))

    def test_best_prices_of_large_systems(self):
        for system in fitting_large_systems():
            with self.subTest(system=system), within(1):
                prices = best_prices(system)
                self.check_form(system, prices)
                self.assertEqual(price_bound(system, prices), greatest_gain(system))
                self.assertEqual(price_bound(system, prices), gain_of(system, best_plan(system)))

    def test_no_plan_fits(self):
        for system in unfit_systems():
            expect_no_fit(self, best_prices, system)


class ExchangeTest(unittest.TestCase):
    def test_examples(self):
        self.assertEqual(after_exchange(S, (2, 0, 1), ("more", 1)), (2, 1, 1))
        expect_error(self, NoExchange, {}, after_exchange, S, (2, 1, 1), ("more", 1))
        self.assertIs(is_gaining(S, (2, 0, 1), ("more", 1)), True)
        self.assertIs(is_gaining(S, (2, 1, 1), ("move", 0, 1)), False)

    def test_directions(self):
        system = ((((9, 1),), ((9, 2),), ((9, 3),)), ())
        self.assertEqual(after_exchange(system, (3, 4, 5), ("more", 2)), (3, 4, 6))
        self.assertEqual(after_exchange(system, (3, 4, 5), ("less", 2)), (3, 4, 4))
        self.assertEqual(after_exchange(system, (3, 4, 5), ("move", 0, 1)), (2, 5, 5))
        self.assertEqual(after_exchange(system, (3, 4, 5), ("move", 1, 0)), (4, 3, 5))
        self.assertIs(is_gaining(system, (3, 4, 5), ("move", 0, 1)), True)
        self.assertIs(is_gaining(system, (3, 4, 5), ("move", 1, 0)), False)

    def test_equal_gain_is_not_gaining(self):
        self.assertIs(is_gaining(T, (0, 2), ("move", 1, 0)), False)
        self.assertEqual(after_exchange(T, (0, 2), ("move", 1, 0)), (1, 1))
        zero = ((((2, 0),),), ())
        self.assertIs(is_gaining(zero, (0,), ("more", 0)), False)
        self.assertIs(is_gaining(zero, (1,), ("less", 0)), False)

    def test_losses(self):
        system = ((((3, -2),),), (((0,), 1, 2),))
        self.assertIs(is_gaining(system, (2,), ("less", 0)), True)
        self.assertIs(is_gaining(system, (1,), ("less", 0)), False)
        self.assertIs(is_gaining(system, (1,), ("more", 0)), False)

    def test_against_all_plans(self):
        for facts in small_facts():
            for plan in facts.plans:
                for exchange, after in exchanges_with_plans(plan).items():
                    fit = after in facts.gains
                    if fit:
                        self.assertEqual(after_exchange(facts.system, plan, exchange), after)
                    else:
                        self.assertRaises(NoExchange, after_exchange, facts.system, plan, exchange)
                    gaining = fit and facts.gains[after] > facts.gains[plan]
                    self.assertIs(is_gaining(facts.system, plan, exchange), gaining)
                    self.assertIs(is_judgement(facts.system, plan, ("exchange", exchange)), gaining)

    def test_no_exchanges(self):
        for value in NO_EXCHANGES:
            with self.subTest(value=value):
                held = copy.deepcopy(value)
                for plan in ((2, 0, 1), (1, 1, 1), (0, 2, 0)):
                    expect_error(self, NoExchange, {}, after_exchange, S, plan, value)
                    self.assertIs(is_gaining(S, plan, value), False)
                    self.assertIs(is_judgement(S, plan, ("exchange", value)), False)
                self.assertEqual(value, held)

    def test_no_exchange_of_one_item(self):
        one = ((((5, 1),),), ())
        for value in (("move", 0, 0), ("move", 0, 1), ("more", 1), ("less", 1)):
            expect_error(self, NoExchange, {}, after_exchange, one, (2,), value)
            self.assertIs(is_gaining(one, (2,), value), False)

    def test_exchanges_beyond_the_capacity(self):
        free = ((((1, 1),), ((1, 1),)), ())
        for plan, exchange in (((1, 0), ("more", 0)), ((1, 0), ("less", 1)), ((1, 1), ("move", 0, 1))):
            expect_error(self, NoExchange, {}, after_exchange, free, plan, exchange)
            self.assertIs(is_gaining(free, plan, exchange), False)

    def test_no_plan(self):
        for plan in UNFIT:
            held = copy.deepcopy(plan)
            for value in (("more", 1), ("exchange", ("more", 1)), ("prices", (3, 0)), None, [], ("move", 0, 0)):
                for function in (after_exchange, is_gaining, is_judgement):
                    expect_error(self, NoPlan, {}, function, S, plan, value)
            expect_error(self, NoPlan, {}, judge, S, plan)
            self.assertEqual(plan, held)

    def test_no_plan_where_none_fits(self):
        for system in unfit_systems()[:40]:
            for plan in all_plans(system):
                expect_error(self, NoPlan, {}, judge, system, plan)
                for function in (after_exchange, is_gaining, is_judgement):
                    expect_error(self, NoPlan, {}, function, system, plan, ("more", 0))


class JudgementTest(unittest.TestCase):
    def test_examples(self):
        self.assertEqual(judge(S, (3, 0, 1)), ("exchange", ("move", 0, 1)))
        expect_error(self, NoPlan, {}, judge, S, (4, 0, 0))
        self.assertIs(is_judgement(S, (2, 1, 1), ("prices", (3, 0))), True)
        self.assertIs(is_judgement(S, (2, 1, 1), ("prices", (0, 4))), False)

    def test_all_plans(self):
        words = {"prices": 0, "exchange": 0}
        for facts in fitting_facts():
            for plan in facts.plans:
                with self.subTest(system=facts.system, plan=plan):
                    judgement = judge(facts.system, plan)
                    self.check(facts, plan, judgement)
                    words[judgement[0]] += 1
        self.assertGreater(min(words.values()), 500)

    def check(self, facts, plan, judgement):
        word, shown = judgement
        self.assertIs(type(judgement), tuple)
        self.assertIs(type(shown), tuple)
        self.assertEqual(word, "prices" if plan in facts.best else "exchange")
        if word == "prices":
            self.assertEqual(plain_bound(facts.system, shown), facts.gains[plan])
        else:
            after = exchanges_with_plans(plan)[shown]
            self.assertGreater(facts.gains[after], facts.gains[plan])
        self.assertIs(is_judgement(facts.system, plan, judgement), True)
        self.assertEqual(judge(facts.system, plan), judgement)

    def test_any_prices(self):
        for facts in fitting_facts():
            groups = len(facts.system[1])
            if groups < 3:
                for prices in product(range(-3, 4), repeat=groups):
                    bound = plain_bound(facts.system, prices)
                    for plan in facts.plans[:10] + facts.best[:3]:
                        right = bound == facts.gains[plan]
                        self.assertIs(is_judgement(facts.system, plan, ("prices", prices)), right)
                        if right:
                            # Never both: where prices are right, no exchange gains.
                            self.assertEqual(judge(facts.system, plan)[0], "prices")

    def test_wrong_judgements(self):
        for value in (
            ["prices", (3, 0)],
            ("prices", [3, 0]),
            ("prices", (3,)),
            ("prices", (3, 0, 0)),
            ("prices", (3, False)),
            ("prices", (3, 0), ()),
            ("prices", 3, 0),
            ("prices", None),
            ("prices",),
            ("Prices", (3, 0)),
            ("price", (3, 0)),
            ("exchange", (3, 0)),
            ("exchange", ("more", 1)),
            ("exchange", ("move", 0, 1)),
            ("exchange",),
            (None, (3, 0)),
            (["prices"], (3, 0)),
            (3, 0),
            (("prices", (3, 0)),),
            {"prices": (3, 0)},
            *ODD_VALUES,
        ):
            held = copy.deepcopy(value)
            self.assertIs(is_judgement(S, (2, 1, 1), value), False, value)
            self.assertIs(is_judgement(S, (2, 0, 1), value), value == ("exchange", ("more", 1)), value)
            self.assertEqual(value, held)

    def test_words_and_what_they_show(self):
        self.assertIs(is_judgement(S, (2, 0, 1), ("exchange", ("more", 1))), True)
        self.assertIs(is_judgement(S, (2, 0, 1), ("prices", ("more", 1))), False)
        self.assertIs(is_judgement(S, (2, 0, 1), ("prices", (3, 0))), False)
        self.assertIs(is_judgement(S, (2, 0, 1), ["exchange", ("more", 1)]), False)
        self.assertIs(is_judgement(S, (2, 0, 1), ("exchange", ["more", 1])), False)
        self.assertIs(is_judgement(S, (2, 0, 1), ("more", 1)), False)
        self.assertIs(is_judgement(S, (2, 0, 1), ("exchange", "more", 1)), False)
        for word in ODD_VALUES:
            self.assertIs(is_judgement(S, (2, 1, 1), (word, (3, 0))), False)
            self.assertIs(is_judgement(S, (2, 0, 1), (word, ("more", 1))), False)

    def test_no_groups(self):
        system = ((((1, 2),), ((3, -1),)), ())
        self.assertEqual(judge(system, (1, 0)), ("prices", ()))
        self.assertIs(is_judgement(system, (1, 0), ("prices", ())), True)
        self.assertIs(is_judgement(system, (1, 1), ("prices", ())), False)
        self.assertEqual(judge(system, (1, 2)), ("exchange", ("less", 1)))
        self.assertEqual(judge(system, (0, 0)), ("exchange", ("more", 0)))

    def test_large_systems(self):
        for system in fitting_large_systems():
            low, high = totals_of(system)
            for total in (low, (low + high) // 2, high):
                with self.subTest(system=system, total=total), within(1):
                    plan = plan_at(system, total)
                    word, shown = judge(system, plan)
                    self.assertIs(is_judgement(system, plan, (word, shown)), True)
                    if word == "exchange":
                        after = after_exchange(system, plan, shown)
                        self.assertEqual(after, exchanges_with_plans(plan)[shown])
                        self.assertGreater(gain_of(system, after), gain_of(system, plan))
                        self.assertLess(gain_of(system, plan), greatest_gain(system))
                    else:
                        self.assertEqual(gain_of(system, plan), greatest_gain(system))
            word, prices = judge(system, best_plan(system))
            self.assertEqual((word, price_bound(system, prices)), ("prices", greatest_gain(system)))

    def test_huge(self):
        plan = (LIMIT // 4, LIMIT // 4, 0, 10, 0, 4)
        with within(1):
            self.assertEqual(judge(HUGE, plan)[0], "exchange")
            self.assertEqual(after_exchange(HUGE, plan, ("more", 2)), (LIMIT // 4, LIMIT // 4, 1, 10, 0, 4))
            self.assertIs(is_gaining(HUGE, plan, ("more", 2)), True)
            expect_error(self, NoExchange, {}, after_exchange, HUGE, plan, ("more", 0))

    def test_thousand_calls(self):
        plan = best_plan(HUGE)
        for number in range(1000):
            with within(1):
                self.assertEqual(judge(HUGE, plan)[0], "prices")


if __name__ == "__main__":
    unittest.main()
