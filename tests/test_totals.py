"""[13] to [19] and [3] (a): possible totals, reasons, contradictions and certificates."""

import copy
import unittest

from groupcaps.errors import NoFit
from groupcaps.systems import is_system
from groupcaps.totals import (
    certificate,
    find_reasons,
    high_bound,
    is_certificate,
    is_contradiction,
    low_bound,
    totals_of,
)
from samples import (
    HUGE,
    LIMIT,
    N,
    ODD_NUMBERS,
    ODD_VALUES,
    S,
    T,
    Numbers,
    all_choices,
    capacity,
    fitting_plans,
    keeps_limits,
    made_system,
    small_systems,
)

# Groups within groups; group 1 is the same as the union of two groups inside it.
NESTED = (
    (((3, 4),), ((2, 1), (2, 0)), ((5, 2),), ((1, 9),)),
    (((0, 1, 2), 2, 7), ((0, 1), 1, 6), ((0,), 1, 2), ((1,), 2, 3), ((3,), 0, 1)),
)


def plain_low_bound(system, reason):
    """The bound of an ascending tuple of groups, by the words of the document."""
    groups = [system[1][number] for number in reason]
    members = [item for group in groups for item in group[0]]
    if len(set(members)) < len(members):
        return None
    return sum(least for chosen, least, most in groups)


def plain_covered(system, cover):
    """The items that groups and items cover, or None if they are no cover."""
    groups, items = cover
    members = [item for number in groups for item in system[1][number][0]]
    covered = members + list(items)
    return None if len(set(covered)) < len(covered) else sorted(covered)


def plain_cover_bound(system, cover):
    groups, items = cover
    return sum(system[1][number][2] for number in groups) + sum(capacity(system[0][item]) for item in items)


def all_pairs(system):
    """All pairs of ascending tuples of groups and of items."""
    items = all_choices(len(system[0]))
    return [(groups, chosen) for groups in all_choices(len(system[1])) for chosen in items]


def ascends(value):
    return isinstance(value, tuple) and all(one < other for one, other in zip(value, value[1:]))


class BoundTest(unittest.TestCase):
    def test_example(self):
        self.assertEqual(low_bound(S, (1,)), 2)
        self.assertIsNone(low_bound(S, (0, 1)))

    def test_low_bound(self):
        self.assertEqual(low_bound(S, ()), 0)
        self.assertEqual(low_bound(S, (0,)), 0)
        self.assertEqual(low_bound(NESTED, (2, 3, 4)), 3)
        self.assertEqual(low_bound(NESTED, (1, 4)), 1)
        self.assertEqual(low_bound(NESTED, (0,)), 2)
        self.assertEqual(low_bound(N, (0,)), 3)
        self.assertEqual(low_bound(((((1, 1),),), ()), ()), 0)

    def test_no_low_reason(self):
        for value in ((1, 0), (0, 0), (3, 2), (2, 2), (5,), (2, 5), (-1,), (-1, 2), (1, 2), (0, 3), [2, 3], [], {}):
            self.assertIsNone(low_bound(NESTED, value), value)
        self.assertIsNone(low_bound(((((1, 1),),), ()), (0,)))

    def test_high_bound(self):
        self.assertEqual(high_bound(S, ((1,), ())), 4)
        self.assertEqual(high_bound(S, ((0,), (2,))), 6)
        self.assertEqual(high_bound(S, ((), (0, 1, 2))), 9)
        self.assertEqual(high_bound(NESTED, ((1, 4), (2,))), 12)
        self.assertEqual(high_bound(NESTED, ((2, 3), (2, 3))), 11)
        self.assertEqual(high_bound((((),), ()), ((), (0,))), 0)

    def test_no_high_reason(self):
        for value in (
            ((), ()),
            ((0,), ()),
            ((0,), (1, 2)),
            ((0,), (0, 2)),
            ((0, 1), ()),
            ((1,), (0,)),
            ((1,), (2,)),
            ((1, 1), ()),
            ((1, 0), ()),
            ((2,), ()),
            ((-1,), ()),
            ((), (0, 1)),
            ((), (0, 2, 1)),
            ((), (0, 1, 1, 2)),
            ((), (0, 1, 2, 3)),
            ((), (-1, 0, 1, 2)),
            ([1], ()),
            ((1,), []),
            [(1,), ()],
            ((1,),),
            ((1,), (), ()),
            (1, ()),
            ((1,), None),
            (None, (0, 1, 2)),
            ("", (0, 1, 2)),
            ((1,), ""),
            ((1,), {}),
        ):
            self.assertIsNone(high_bound(S, value), value)

    def test_odd_values(self):
        for value in ODD_VALUES:
            held = copy.deepcopy(value)
            self.assertIsNone(low_bound(S, value))
            self.assertIsNone(high_bound(S, value))
            self.assertEqual(value, held)

    def test_odd_numbers(self):
        system = ((((1, 1),), ((1, 1),)), (((0,), 1, 1), ((1,), 1, 1)))
        for number in ODD_NUMBERS:
            with self.subTest(number=number):
                self.assertIsNone(low_bound(system, (number,)))
                self.assertIsNone(low_bound(system, (0, number)))
                self.assertIsNone(low_bound(system, (number, 1)))
                self.assertIsNone(high_bound(system, ((0, number), ())))
                self.assertIsNone(high_bound(system, ((number, 1), ())))
                self.assertIsNone(high_bound(system, ((), (0, number))))
                self.assertIsNone(high_bound(system, ((), (number, 1))))
                self.assertIsNone(high_bound(system, ((0,), (number,))))

    def test_against_the_words(self):
        for system in [*small_systems(60, 5), S, N, NESTED]:
            for reason in all_choices(len(system[1])):
                self.assertEqual(low_bound(system, reason), plain_low_bound(system, reason))
            for cover in all_pairs(system):
                covered = plain_covered(system, cover)
                bound = plain_cover_bound(system, cover) if covered == list(range(len(system[0]))) else None
                self.assertEqual(high_bound(system, cover), bound)

    def test_huge(self):
        self.assertEqual(low_bound(HUGE, (1, 2)), LIMIT // 2)
        self.assertEqual(high_bound(HUGE, ((5,), (0, 1, 2, 3))), 4 * LIMIT + 4)
        self.assertEqual(high_bound(HUGE, ((6, 7), (0, 1, 2, 3))), 6 * LIMIT)


class TotalsTest(unittest.TestCase):
    def check(self, system, low, high):
        self.assertTrue(is_system(system))
        self.assertEqual(totals_of(system), (low, high))
        self.assertIs(type(totals_of(system)), tuple)
        self.assertEqual(totals_of(system), totals_of(system))
        reason, cover = find_reasons(system)
        self.assertTrue(ascends(reason) and ascends(cover[0]) and ascends(cover[1]))
        self.assertEqual(low_bound(system, reason), low)
        self.assertEqual(high_bound(system, cover), high)
        self.assertEqual(find_reasons(system), (reason, cover))
        word, plan, reason, other, cover = certificate(system)
        self.assertEqual(word, "totals")
        self.assertTrue(ascends(reason) and ascends(cover[0]) and ascends(cover[1]))
        self.assertTrue(keeps_limits(system, plan) and keeps_limits(system, other))
        for chosen in (plan, other):
            self.assertIs(type(chosen), tuple)
            self.assertEqual(len(chosen), len(system[0]))
            self.assertTrue(all(0 <= units <= capacity(gains) for units, gains in zip(chosen, system[0])))
        self.assertEqual((sum(plan), low_bound(system, reason)), (low, low))
        self.assertEqual((sum(other), high_bound(system, cover)), (high, high))
        self.assertIs(is_certificate(system, certificate(system)), True)
        self.assertEqual(certificate(system), certificate(system))

    def check_never(self, system):
        self.assertTrue(is_system(system))
        contradictions = []
        for function in (totals_of, find_reasons):
            with self.assertRaises(NoFit) as caught:
                function(system)
            self.assertIs(type(caught.exception), NoFit)
            contradictions.append(caught.exception.contradiction)
        word, contradiction = certificate(system)
        self.assertEqual(word, "never")
        self.assertEqual(certificate(system), ("never", contradiction))
        for reason, cover in [*contradictions, contradiction]:
            self.assertTrue(ascends(reason) and ascends(cover[0]) and ascends(cover[1]))
            covered = plain_covered(system, cover)
            for number in reason:
                self.assertLessEqual(set(system[1][number][0]), set(covered))
            self.assertGreater(plain_low_bound(system, reason), plain_cover_bound(system, cover))
            self.assertIs(is_contradiction(system, (reason, cover)), True)
        self.assertIs(is_certificate(system, ("never", contradiction)), True)

    def test_examples(self):
        self.check(S, 2, 4)
        self.check(T, 0, 2)
        self.check_never(N)

    def test_no_groups(self):
        self.check((((),), ()), 0, 0)
        self.check(((((2, 3),), (), ((1, 1), (4, -1))), ()), 0, 7)

    def test_one_total(self):
        self.check((((), ()), (((0, 1), 0, 5),)), 0, 0)
        self.check(((((9, 1),), ((9, 1),)), (((0, 1), 7, 7),)), 7, 7)

    def test_groups_in_any_order(self):
        self.check(NESTED, 3, 8)
        items, groups = NESTED
        self.check((items, groups[::-1]), 3, 8)
        self.check((items, groups[2:] + groups[:2]), 3, 8)

    def test_limits_of_the_outer_group(self):
        items = (((5, 1),), ((5, 1),), ((5, 1),))
        self.check((items, (((0, 1), 2, 4), ((0, 1, 2), 3, 8))), 3, 8)
        self.check((items, (((0, 1), 2, 4), ((0, 1, 2), 1, 15))), 2, 9)
        self.check((items, (((0, 1), 2, 2), ((0, 1, 2), 7, 7))), 7, 7)

    def test_limits_that_cannot_be_kept(self):
        self.check_never((((),), (((0,), 1, 1),)))
        self.check_never(((((5, 1),), ((5, 1),)), (((0,), 2, 5), ((1,), 2, 5), ((0, 1), 0, 3))))
        self.check_never(((((5, 1),), ((5, 1),)), (((0, 1), 9, 10), ((0,), 0, 3))))
        self.check_never(((((5, 1),), ((5, 1),), ()), (((2,), 0, 0), ((0, 1), 9, 10), ((0,), 0, 3), ((1,), 1, 5))))
        self.check_never(
            (
                (((9, 1),),) * 6,
                (((0, 1, 2, 3, 4, 5), 0, 9), ((0, 1, 2), 0, 9), ((3, 4, 5), 4, 9), ((0, 1), 3, 9), ((2,), 3, 9)),
            )
        )

    def test_huge(self):
        self.check(HUGE, LIMIT // 2 + 10, LIMIT + 4)
        items = (((LIMIT, 1),),) * 6
        self.check((items, ()), 0, 6 * LIMIT)
        everything = (0, 1, 2, 3, 4, 5)
        self.check((items, ((everything, LIMIT, LIMIT),)), LIMIT, LIMIT)
        ones = tuple(((item,), LIMIT - 1, LIMIT) for item in everything)
        self.check((items, ones), 6 * LIMIT - 6, 6 * LIMIT)
        self.check_never((items, (*ones, (everything, 0, LIMIT))))
        self.check_never(((((LIMIT - 1, 1),), ()), (((0, 1), LIMIT, LIMIT),)))
        self.check(((((LIMIT - 1, 1),), ((1, 1),)), (((0, 1), LIMIT, LIMIT),)), LIMIT, LIMIT)

    def test_all_plans_of_small_systems(self):
        outcomes = {True: 0, False: 0}
        for system in [*small_systems(), S, T, N, NESTED]:
            with self.subTest(system=system):
                totals = sorted(set(sum(plan) for plan in fitting_plans(system)))
                outcomes[bool(totals)] += 1
                if totals:
                    self.assertEqual(totals, list(range(totals[0], totals[-1] + 1)))
                    self.check(system, totals[0], totals[-1])
                else:
                    self.check_never(system)
        self.assertGreater(min(outcomes.values()), 50)

    def test_large_systems(self):
        numbers = Numbers(9)
        words = []
        for number in range(300):
            system = made_system(numbers, 1 + number % 6, 10 ** 11)
            words.append(certificate(system)[0])
            if words[-1] == "totals":
                self.check(system, *totals_of(system))
            else:
                self.check_never(system)
        self.assertGreater(min(words.count("totals"), words.count("never")), 50)

    def test_unlike_answers_never_meet(self):
        # Where some plan fits, no pair of reason and cover is a contradiction.
        for system in small_systems(100, 3):
            if fitting_plans(system) and len(system[1]) < 5:
                for reason in all_choices(len(system[1])):
                    for cover in all_pairs(system):
                        self.assertIs(is_contradiction(system, (reason, cover)), False)

    def test_bounds_hold_for_all_plans(self):
        for system in small_systems(80, 4):
            totals = [sum(plan) for plan in fitting_plans(system)]
            if totals:
                for reason in all_choices(len(system[1])):
                    bound = low_bound(system, reason)
                    self.assertTrue(bound is None or bound <= min(totals))
                for cover in all_pairs(system):
                    bound = high_bound(system, cover)
                    self.assertTrue(bound is None or bound >= max(totals))


class ContradictionTest(unittest.TestCase):
    def test_example(self):
        self.assertIs(is_contradiction(N, ((0,), ((), (0, 1)))), True)
        self.assertIs(is_contradiction(N, ((0,), ((0,), ()))), False)

    def test_bound_must_be_greater(self):
        items = (((1, 5),), ((1, 5),))
        self.assertIs(is_contradiction((items, (((0, 1), 2, 4),)), ((0,), ((), (0, 1)))), False)
        self.assertIs(is_contradiction((items, (((0, 1), 3, 4),)), ((0,), ((), (0, 1)))), True)

    def test_cover_may_cover_more(self):
        system = (((), ((1, 1),), ((1, 1),)), (((0,), 5, 5), ((1, 2), 0, 1)))
        self.assertIs(is_contradiction(system, ((0,), ((), (0,)))), True)
        self.assertIs(is_contradiction(system, ((0,), ((1,), (0,)))), True)
        self.assertIs(is_contradiction(system, ((0,), ((), (0, 1, 2)))), True)
        self.assertIs(is_contradiction(system, ((0,), ((1,), ()))), False)
        self.assertIs(is_contradiction(system, ((0,), ((), (1, 2)))), False)
        self.assertIs(is_contradiction(system, ((0,), ((), ()))), False)
        self.assertIs(is_contradiction(system, ((), ((), ()))), False)

    def test_all_members_must_be_covered(self):
        self.assertIs(is_contradiction(N, ((0,), ((), (0,)))), False)
        self.assertIs(is_contradiction(N, ((0,), ((), (1,)))), False)
        self.assertIs(is_contradiction(N, ((0,), ((), ()))), False)

    def test_wrong_parts(self):
        for value in (
            [(0,), ((), (0, 1))],
            ([0], ((), (0, 1))),
            ((0,), [(), (0, 1)]),
            ((0,), ([], (0, 1))),
            ((0,), ((), [0, 1])),
            ((0,), ((), (1, 0))),
            ((0,), ((), (0, 0, 1))),
            ((0,), ((), (0, 1, 2))),
            ((0,), ((0,), (0, 1))),
            ((0,), ((1,), (0, 1))),
            ((1,), ((), (0, 1))),
            ((0, 0), ((), (0, 1))),
            ((False,), ((), (0, 1))),
            ((0,), ((), (False, 1))),
            ((0,), ((), (0, True))),
            ((0,), ((), (0, 1)), ()),
            ((0,), ((), (0, 1), ())),
            ((0,), ((),)),
            ((0,),),
            ((0,), None),
            (None, ((), (0, 1))),
        ):
            self.assertIs(is_contradiction(N, value), False, value)
            self.assertIs(is_certificate(N, ("never", value)), False, value)

    def test_groups_of_the_reason_are_apart(self):
        system = ((((1, 5),), ((1, 5),)), (((0, 1), 2, 4), ((0,), 1, 4)))
        self.assertIs(is_contradiction(system, ((0, 1), ((), (0, 1)))), False)

    def test_groups_of_the_cover_are_apart(self):
        system = ((((9, 5),), ((9, 5),)), (((0, 1), 9, 9), ((0,), 0, 1), ((1,), 0, 2)))
        self.assertIs(is_contradiction(system, ((0,), ((1, 2), ()))), True)
        self.assertIs(is_contradiction(system, ((0,), ((1, 2), (0,)))), False)
        system = ((((9, 5),), ((9, 5),)), (((0, 1), 0, 3), ((0,), 5, 9), ((1,), 0, 1)))
        self.assertIs(is_contradiction(system, ((1,), ((0,), ()))), True)
        self.assertIs(is_contradiction(system, ((1,), ((0, 2), ()))), False)

    def test_odd_values(self):
        for value in ODD_VALUES:
            held = copy.deepcopy(value)
            self.assertIs(is_contradiction(N, value), False)
            self.assertIs(is_contradiction(N, (value, value)), False)
            self.assertIs(is_contradiction(N, ((0,), value)), False)
            self.assertIs(is_contradiction(N, ((0,), (value, (0, 1)))), value == ())
            self.assertEqual(value, held)

    def test_against_the_words(self):
        for system in [*small_systems(40, 6), N, S]:
            if len(system[1]) < 5:
                for reason in all_choices(len(system[1])):
                    bound = plain_low_bound(system, reason)
                    members = set(item for number in reason for item in system[1][number][0])
                    for cover in all_pairs(system):
                        covered = plain_covered(system, cover)
                        expected = bound is not None and covered is not None and members <= set(covered)
                        expected = expected and bound > plain_cover_bound(system, cover)
                        self.assertIs(is_contradiction(system, (reason, cover)), expected)


class CertificateTest(unittest.TestCase):
    RIGHT = ("totals", (2, 0, 0), (1,), (1, 2, 1), ((1,), ()))

    def test_example(self):
        self.assertIs(is_certificate(S, self.RIGHT), True)
        self.assertIs(is_certificate(S, ("totals", (2, 0, 0), (1,), (1, 2, 1), ((), (0, 1, 2)))), False)
        self.assertEqual(certificate(N), ("never", ((0,), ((), (0, 1)))))

    def test_any_plans_and_reasons(self):
        self.assertIs(is_certificate(S, ("totals", (0, 0, 2), (1,), (0, 1, 3), ((1,), ()))), True)
        self.assertIs(is_certificate(T, ("totals", (0, 0), (), (2, 0), ((0,), ()))), True)
        self.assertIs(is_certificate(T, ("totals", (0, 0), (0,), (0, 2), ((0,), ()))), True)
        one = (((), ()), (((0, 1), 0, 5),))
        self.assertIs(is_certificate(one, ("totals", (0, 0), (), (0, 0), ((), (0, 1)))), True)
        two = (((), ()), (((0,), 1, 1), ((1,), 2, 2)))
        for contradiction in (((0,), ((), (0,))), ((1,), ((), (1,))), ((0, 1), ((), (0, 1))), ((1,), ((0,), (1,)))):
            self.assertIs(is_certificate(two, ("never", contradiction)), True)

    def test_wrong_certificates(self):
        for value in (
            ("never", (2, 0, 0), (1,), (1, 2, 1), ((1,), ())),
            ("total", (2, 0, 0), (1,), (1, 2, 1), ((1,), ())),
            (None, (2, 0, 0), (1,), (1, 2, 1), ((1,), ())),
            ("totals", (1, 2, 1), ((1,), ()), (2, 0, 0), (1,)),
            ("totals", (1, 2, 1), (1,), (1, 2, 1), ((1,), ())),
            ("totals", (2, 0, 0), (1,), (2, 0, 0), ((1,), ())),
            ("totals", (2, 0, 0), (0,), (1, 2, 1), ((1,), ())),
            ("totals", (2, 0, 0), (), (1, 2, 1), ((1,), ())),
            ("totals", (2, 0, 0), (0, 1), (1, 2, 1), ((1,), ())),
            ("totals", (2, 0, 0), (1,), (1, 2, 1), ((0,), (2,))),
            ("totals", (2, 0, 0), (1,), (1, 2, 1), ((1,), (0,))),
            ("totals", (2, 0, 0), (1,), (1, 2, 1), ((), (0, 1))),
            ("totals", (2, 0, 0), (1,), (4, 0, 0), ((1,), ())),
            ("totals", (2, 0, 0), (1,), (2, 2, 0), ((1,), ())),
            ("totals", (2, 0, 0), (1,), (1, 2, True), ((1,), ())),
            ("totals", (2, False, 0), (1,), (1, 2, 1), ((1,), ())),
            ("totals", [2, 0, 0], (1,), (1, 2, 1), ((1,), ())),
            ("totals", (2, 0, 0), [1], (1, 2, 1), ((1,), ())),
            ("totals", (2, 0, 0), (True,), (1, 2, 1), ((1,), ())),
            ("totals", (2, 0, 0), (1,), [1, 2, 1], ((1,), ())),
            ("totals", (2, 0, 0), (1,), (1, 2, 1), [(1,), ()]),
            ("totals", (2, 0), (1,), (1, 2, 1), ((1,), ())),
            ("totals", (2, 0, 0), (1,), (1, 2, 1)),
            ("totals", (2, 0, 0), (1,), (1, 2, 1), ((1,), ()), None),
            ("totals", None, None, None, None),
            list(self.RIGHT),
            ("never", ((1,), ((1,), ()))),
            ("never", None),
            ("never", ()),
        ):
            self.assertIs(is_certificate(S, value), False, value)

    def test_reasons_of_plans_that_do_not_fit(self):
        # The totals agree with the bounds, but the plans break the inner limits.
        system = ((((3, 1),), ((3, 1),)), (((0, 1), 2, 4), ((0,), 1, 2)))
        self.assertIs(is_certificate(system, ("totals", (1, 1), (0,), (2, 2), ((0,), ()))), True)
        self.assertIs(is_certificate(system, ("totals", (0, 2), (0,), (2, 2), ((0,), ()))), False)
        self.assertIs(is_certificate(system, ("totals", (1, 1), (0,), (3, 1), ((0,), ()))), False)

    def test_wrong_words(self):
        right = ((0,), ((), (0, 1)))
        self.assertIs(is_certificate(N, ("never", right)), True)
        for value in (("totals", right), ("Never", right), right, ["never", right], ("never", right, right), ("never",)):
            self.assertIs(is_certificate(N, value), False)
        for word in ODD_VALUES:
            self.assertIs(is_certificate(N, (word, right)), False)

    def test_odd_values(self):
        for value in ODD_VALUES:
            held = copy.deepcopy(value)
            self.assertIs(is_certificate(S, value), False)
            self.assertIs(is_certificate(N, value), False)
            for index in range(1, 5):
                parts = list(self.RIGHT)
                parts[index] = value
                self.assertIs(is_certificate(S, tuple(parts)), False)
            self.assertEqual(value, held)

    def test_no_certificate_of_another_system(self):
        for system in small_systems(100, 7):
            found = certificate(system)
            for other in (S, T, N):
                if is_certificate(other, found):
                    # What is accepted is correct, whoever made it.
                    self.assertEqual(found[0] == "totals", bool(fitting_plans(other)))
                    if found[0] == "totals":
                        self.assertEqual(totals_of(other), (sum(found[1]), sum(found[3])))


if __name__ == "__main__":
    unittest.main()
