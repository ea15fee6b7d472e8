"""[49] to [66] and [3] (f): sessions, their operations, moments, log, plans and clones."""

import copy
import unittest

from groupcaps.best import best_plan, greatest_gain
from groupcaps.changes import with_gains, with_group, without_group
from groupcaps.errors import (
    BadSystem,
    BadText,
    Blocked,
    CapError,
    Failed,
    NoFit,
    NoGains,
    NoGroup,
    NoItem,
    NoLimits,
    NoMoment,
    NoNumber,
    NoOperations,
    NoPlan,
    NothingToUndo,
    TooMany,
)
from groupcaps.limits import LOG_SIZE, MAX_BATCH, MAX_OPERATIONS
from groupcaps.sessions import GuardedSession, Session
from groupcaps.systems import fits, is_system, system_error
from groupcaps.texts import format_system
from groupcaps.totals import certificate, is_certificate, is_contradiction, totals_of
from samples import (
    CHOSEN,
    EDGE_GAINS,
    HUGE,
    LIMIT,
    N,
    ODD_GAINS,
    ODD_GROUPS,
    ODD_LIMITS,
    ODD_NUMBERS,
    ODD_VALUES,
    S,
    T,
    UNFIT,
    Numbers,
    expect_error,
    small_systems,
    within,
)

NAMES = ("add_group", "add_item", "remove_group", "set_gains", "set_limits")
BOTH = (Session, GuardedSession)
ARGUMENTS = {"add_group": 1, "add_item": 1, "remove_group": 1, "set_gains": 2, "set_limits": 3}

# For T, one operation of each kind that is done.
DONE = (
    ("set_gains", 1, ((4, 2),)),
    ("set_limits", 0, 1, 3),
    ("add_group", ((1,), 0, 1)),
    ("remove_group", 0),
    ("add_item", ((2, 7),)),
)

# For T, operations that are refused, each with its exception and the attributes of that.
REFUSED = (
    (("set_gains", 2, ()), NoItem, {"item": 2}),
    (("set_gains", True, None), NoItem, {"item": True}),
    (("set_gains", 0, ((0, 1),)), NoGains, {}),
    (("set_limits", 1, 5, 4), NoNumber, {"number": 1}),
    (("set_limits", 0, 5, 4), NoLimits, {}),
    (("add_group", ((0, 1), 0, 1)), NoGroup, {}),
    (("add_group", None), NoGroup, {}),
    (("remove_group", 1), NoNumber, {"number": 1}),
    (("remove_group", False), NoNumber, {"number": False}),
    (("add_item", [(1, 1)]), NoGains, {}),
)

# A guarded session of this system refuses these. No other kind of operation is ever blocked:
# what fits goes on to fit with one group less or one free item more.
TIGHT = ((((2, 3),), ((2, 1),), ((1, 1),)), (((0, 1, 2), 3, 4), ((0, 1), 3, 4)))
BLOCKED = (
    ("set_gains", 0, ()),
    ("set_limits", 0, 6, 7),
    ("set_limits", 1, 0, 0),
    ("add_group", ((0,), 0, 0)),
    ("add_group", ((2,), 2, 2)),
)


def call(session, operation):
    return getattr(session, operation[0])(*operation[1:])


def facts_of(session):
    """What a session tells of itself, but for its log."""
    moments = range(len(session) + 1)
    return (str(session), len(session), session.gain, session.plan, [session.data(at=at) for at in moments])


def contradiction_after(test, session, operation):
    """The contradiction with which a guarded session refuses the operation."""
    with test.assertRaises(Blocked) as caught:
        call(session, operation)
    test.assertIs(type(caught.exception), Blocked)
    test.assertEqual(list(vars(caught.exception)), ["contradiction"])
    return caught.exception.contradiction


def is_plain_integer(value):
    return isinstance(value, int) and not isinstance(value, bool)


def plainly_changed(system, operation):
    """The system after the operation, by the functions of module changes where they are."""
    name, *arguments = operation
    if name == "set_gains":
        return with_gains(system, *arguments)
    if name == "add_group":
        return with_group(system, *arguments)
    if name == "remove_group":
        return without_group(system, *arguments)
    if name == "add_item":
        if not is_system(((arguments[0],), ())):
            raise NoGains()
        if len(system[0]) == 6:
            raise TooMany(6)
        return ((*system[0], arguments[0]), system[1])
    number, least, most = arguments
    if not is_plain_integer(number) or not 0 <= number < len(system[1]):
        raise NoNumber(number)
    groups = list(system[1])
    groups[number] = (groups[number][0], least, most)
    if not is_system((system[0], tuple(groups))):
        raise NoLimits()
    return (system[0], tuple(groups))


class Model:
    """A session that keeps everything and works everything out anew."""

    def __init__(self, system, guarded, limit):
        self.guarded = guarded
        self.limit = limit
        self.systems = [system]
        self.entries = []
        self.chosen = None

    def tried(self, systems, operation):
        """The next system, or an exception."""
        if len(systems) - 1 >= self.limit:
            raise TooMany(self.limit)
        system = plainly_changed(systems[-1], operation)
        shown = certificate(system)
        if self.guarded and shown[0] == "never":
            raise Blocked(shown[1])
        return system

    def perform(self, operation):
        """The exception, or None."""
        try:
            self.systems.append(self.tried(self.systems, operation))
            self.entries.append((operation[0], "done"))
        except CapError as error:
            self.entries.append((operation[0], type(error).__name__))
            return error

    def undo(self):
        if len(self.systems) == 1:
            self.entries.append(("undo", "NothingToUndo"))
            return NothingToUndo()
        self.systems.pop()
        self.entries.append(("undo", "done"))

    def apply_all(self, operations):
        systems = list(self.systems)
        for index, operation in enumerate(operations):
            try:
                systems.append(self.tried(systems, operation))
            except CapError as error:
                self.entries.extend((before[0], "reverted") for before in operations[:index])
                self.entries.append((operation[0], type(error).__name__))
                return Failed(index)
        self.entries.extend((operation[0], "done") for operation in operations)
        self.systems = systems

    def choose(self, value):
        if not fits(self.systems[-1], value):
            return NoPlan()
        self.chosen = value


def made_operation(numbers, system):
    """An operation for the system; often it can be done."""
    items, groups = system
    name = NAMES[numbers.below(5)]
    gains = (((2, 3),), ((1, 2), (2, -1)), (), ((3, 0),), ((0, 1),), None)[numbers.below(6)]
    number = numbers.below(len(groups) + 1)
    least = numbers.below(3)
    if name == "add_group":
        members = tuple(item for item in range(len(items)) if numbers.below(2))
        return (name, (members, least, least + numbers.between(0, 4)))
    if name == "add_item":
        return (name, gains)
    if name == "remove_group":
        return (name, number)
    if name == "set_gains":
        return (name, numbers.below(len(items) + 1), gains)
    return (name, number, least, numbers.between(least - 1 if least else 0, 8))


class OperationTest(unittest.TestCase):
    def test_examples(self):
        s = Session(T)
        s.set_gains(1, ())
        self.assertEqual(s.data(), ((((2, 3),), ()), (((0, 1), 0, 2),)))
        s = Session(T)
        expect_error(self, NoLimits, {}, s.set_limits, 0, 2, 1)
        s.add_group(((1,), 1, 1))
        s.remove_group(0)
        self.assertEqual(s.data()[1], (((1,), 1, 1),))
        s = Session(T)
        s.add_item(((1, -1),))
        self.assertEqual(s.data()[0], (((2, 3),), ((2, 3),), ((1, -1),)))

    def test_done(self):
        for made in BOTH:
            for operation in DONE:
                s = made(T)
                self.assertIsNone(call(s, operation))
                self.assertEqual(s.data(), plainly_changed(T, operation))
                self.assertEqual((len(s), s.log()), (1, ((operation[0], "done"),)))
                self.assertIsNone(s.undo())
                self.assertEqual((s.data(), len(s)), (T, 0))

    def test_refused(self):
        for made in BOTH:
            for operation, error, attributes in REFUSED:
                s = made(T)
                held = facts_of(s)
                expect_error(self, error, attributes, getattr(s, operation[0]), *operation[1:])
                self.assertEqual(facts_of(s), held)
                self.assertEqual(s.log(), ((operation[0], error.__name__),))
                expect_error(self, Failed, {"index": 0}, made(T).apply_all, [operation])

    def test_wrong_gains(self):
        s = Session(T)
        for gains in ODD_GAINS:
            held = copy.deepcopy(gains)
            expect_error(self, NoGains, {}, s.set_gains, 0, gains)
            expect_error(self, NoGains, {}, s.add_item, gains)
            self.assertEqual(gains, held)
        self.assertEqual((s.data(), len(s)), (T, 0))

    def test_edge_gains(self):
        s = Session(T)
        for gains in EDGE_GAINS:
            s.set_gains(0, gains)
            self.assertEqual(s.data(), ((gains, T[0][1]), T[1]))

    def test_wrong_items(self):
        s = Session(T)
        for item in (*ODD_NUMBERS, 2, 6):
            expect_error(self, NoItem, {"item": item}, s.set_gains, item, ())
            expect_error(self, NoItem, {"item": item}, s.set_gains, item, None)

    def test_wrong_groups(self):
        s = Session(T)
        for group in (*ODD_GROUPS, ((0, 1), 0, 2)):
            held = copy.deepcopy(group)
            expect_error(self, NoGroup, {}, s.add_group, group)
            self.assertEqual(group, held)
        self.assertEqual((s.data(), len(s)), (T, 0))

    def test_wrong_numbers(self):
        s = Session(T)
        for number in (*ODD_NUMBERS, 1, 8):
            expect_error(self, NoNumber, {"number": number}, s.remove_group, number)
            expect_error(self, NoNumber, {"number": number}, s.set_limits, number, 0, 1)
            expect_error(self, NoNumber, {"number": number}, s.set_limits, number, 1, 0)

    def test_wrong_limits(self):
        s = Session(T)
        for least, most in ODD_LIMITS:
            expect_error(self, NoLimits, {}, s.set_limits, 0, least, most)
        for value in ODD_VALUES:
            expect_error(self, NoLimits, {}, s.set_limits, 0, value, 1)
            expect_error(self, NoLimits, {}, s.set_limits, 0, 0, value)
        for least, most in ((0, 0), (0, LIMIT), (LIMIT, LIMIT), (3, 4)):
            s.set_limits(0, least, most)
            self.assertEqual(s.data(), (T[0], (((0, 1), least, most),)))

    def test_too_many_items_and_groups(self):
        s = Session(HUGE)
        with self.assertRaises(TooMany) as caught:
            s.add_item(())
        self.assertEqual(caught.exception.limit, 6)
        expect_error(self, NoGains, {}, s.add_item, None)
        with self.assertRaises(TooMany) as caught:
            s.add_group(((1,), 0, 1))
        self.assertEqual(caught.exception.limit, 8)
        expect_error(self, NoGroup, {}, s.add_group, ((0,), 0, 1))
        outcomes = [outcome for word, outcome in s.log()]
        self.assertEqual(outcomes, ["TooMany", "NoGains", "TooMany", "NoGroup"])

    def test_six_items(self):
        s = Session(T)
        for number in range(4):
            s.add_item(())
        self.assertEqual(s.data(), (T[0] + ((),) * 4, T[1]))
        self.assertRaises(TooMany, s.add_item, ())

    def test_numbers_of_groups_decrease(self):
        s = Session(S)
        s.add_group(((0,), 0, 1))
        s.remove_group(0)
        s.set_limits(1, 0, 2)
        self.assertEqual(s.data()[1], (((0, 1, 2), 2, 4), ((0,), 0, 2)))

    def test_no_other_methods_count(self):
        s = Session(S)
        s.data(), s.totals(), s.best(), s.clone(), s.preview([("add_item", ())]), s.log(), str(s), s.operation_names()
        s.choose((2, 0, 1))
        s.plan = (2, 1, 1)
        self.assertEqual((len(s), s.log()), (0, ()))


class ConstructorTest(unittest.TestCase):
    def test_examples(self):
        self.assertEqual(str(Session(S)), "3 items, 2 groups, gain 17")
        for made in BOTH:
            with self.assertRaises(BadSystem) as caught:
                made((((),), (((1,), 0, 0),)))
            self.assertEqual(caught.exception.error, ("group", 0))
        self.assertRaises(Blocked, GuardedSession, N)

    def test_bad_systems(self):
        wrong_items = ((((1, 1), (1, 1)),), ())
        # No plan fits the groups that stand before the wrong one.
        wrong_group = ((((1, 1),),), (((0,), 3, 4), ((0,), 0, 1)))
        for made in BOTH:
            for value in (*ODD_VALUES, wrong_items, wrong_group, list(T), [T[0], T[1]]):
                with self.assertRaises(BadSystem) as caught:
                    made(value)
                self.assertIs(type(caught.exception), BadSystem)
                self.assertEqual(vars(caught.exception), {"error": system_error(value)})
                self.assertIsNotNone(caught.exception.error)

    def test_any_system(self):
        for system in (*CHOSEN, HUGE):
            s = Session(system)
            self.assertEqual(s.data(), system)
            self.assertEqual((len(s), s.log(), s.plan), (0, (), None))
            shown = certificate(system)
            if shown[0] == "totals":
                self.assertEqual(GuardedSession(system).data(), system)
            else:
                with self.assertRaises(Blocked) as caught:
                    GuardedSession(system)
                self.assertIs(type(caught.exception), Blocked)
                self.assertTrue(is_contradiction(system, caught.exception.contradiction))

    def test_limit_is_passed_by_name(self):
        for made in BOTH:
            self.assertRaises(TypeError, made, T, 5)
            self.assertRaises(TypeError, made)
            self.assertEqual(len(made(T, limit=5)), 0)

    def test_guarded_is_a_session(self):
        self.assertTrue(issubclass(GuardedSession, Session))
        self.assertFalse(isinstance(Session(T), GuardedSession))


class LimitTest(unittest.TestCase):
    def expect_too_many(self, session, limit, operation):
        held = facts_of(session)
        with self.assertRaises(TooMany) as caught:
            call(session, operation)
        self.assertIs(type(caught.exception), TooMany)
        self.assertEqual(vars(caught.exception), {"limit": limit})
        self.assertEqual(facts_of(session), held)
        self.assertEqual(session.log()[-1], (operation[0], "TooMany"))

    def check_limit(self, session, limit):
        """After as many operations as allowed, every operation is refused, whatever is wrong with it."""
        for number in range(limit):
            self.assertEqual(len(session), number)
            session.set_limits(0, 0, number)
        self.assertEqual(len(session), limit)
        for operation in (*DONE, *[refused[0] for refused in REFUSED], ("set_gains", 0, ((1, 1),))):
            self.expect_too_many(session, limit, operation)
            expect_error(self, Failed, {"index": 0}, session.apply_all, [operation])
            self.assertEqual(session.log()[-1], (operation[0], "TooMany"))
            expect_error(self, Failed, {"index": 0}, session.preview, (operation,))
        self.assertIsNone(session.apply_all([]))
        self.assertEqual(session.preview([]), certificate(session.data()))

    def test_limits(self):
        for made in BOTH:
            self.check_limit(made(T), MAX_OPERATIONS)
            for limit in (0, 1, 3, 59, 60):
                self.check_limit(made(T, limit=limit), limit)

    def test_undo_makes_room(self):
        s = Session(T, limit=2)
        s.add_item(())
        s.add_item(())
        self.expect_too_many(s, 2, ("add_item", ()))
        s.undo()
        s.add_item(((1, 1),))
        self.assertEqual(s.data()[0], (*T[0], (), ((1, 1),)))
        self.expect_too_many(s, 2, ("remove_group", 0))
        s.undo()
        s.undo()
        self.assertRaises(NothingToUndo, s.undo)

    def test_refused_operations_take_no_room(self):
        s = GuardedSession(T, limit=1)
        for number in range(3):
            self.assertRaises(NoNumber, s.remove_group, 7)
            self.assertRaises(Blocked, s.set_limits, 0, 5, 6)
        s.remove_group(0)
        self.assertEqual(len(s), 1)

    def test_batches_across_the_limit(self):
        for made in BOTH:
            for before in (0, 40, 45, 50, 58, 59, 60):
                s = made(T)
                for number in range(before):
                    s.set_limits(0, 0, number)
                batch = [("set_limits", 0, 0, number) for number in range(20)]
                room = MAX_OPERATIONS - before
                s.apply_all(batch[:room])
                self.assertEqual(len(s), min(60, before + 20))
                while len(s) > before:
                    s.undo()
                if room < 20:
                    expect_error(self, Failed, {"index": room}, s.preview, batch)
                    expect_error(self, Failed, {"index": room}, s.apply_all, batch)
                    entries = (("set_limits", "reverted"),) * room + (("set_limits", "TooMany"),)
                    self.assertEqual(s.log()[-room - 1 :], entries)
                self.assertEqual(len(s), before)

    def test_too_many_before_blocked(self):
        s = GuardedSession(T, limit=0)
        self.expect_too_many(s, 0, ("set_limits", 0, 5, 6))


class UndoTest(unittest.TestCase):
    def test_example(self):
        expect_error(self, NothingToUndo, {}, Session(T).undo)
        expect_error(self, NothingToUndo, {}, GuardedSession(T).undo)

    def test_each_depth(self):
        operations = [("set_limits", 0, 0, number) for number in range(54)]
        operations += [("add_item", ((2, 7),)), ("add_group", ((2,), 0, 1)), ("remove_group", 0), ("set_gains", 0, ())]
        operations += [("add_item", ()), ("set_limits", 0, 1, 2)]
        for made in BOTH:
            s = made(T)
            held = [facts_of(s)]
            for operation in operations:
                call(s, operation)
                held.append(facts_of(s))
            for depth in range(60, 0, -1):
                self.assertEqual(facts_of(s), held[depth])
                self.assertIsNone(s.undo())
            self.assertEqual(facts_of(s), held[0])
            self.assertRaises(NothingToUndo, s.undo)
            self.assertEqual(facts_of(s), held[0])
            self.assertEqual(s.log()[-1], ("undo", "NothingToUndo"))

    def test_operations_of_a_batch_one_by_one(self):
        s = Session(T)
        s.apply_all(DONE[:3])
        self.assertEqual(len(s), 3)
        systems = [T]
        for operation in DONE[:3]:
            systems.append(plainly_changed(systems[-1], operation))
        for number in (2, 1, 0):
            s.undo()
            self.assertEqual((s.data(), len(s)), (systems[number], number))

    def test_other_way_after_undo(self):
        s = Session(T)
        s.add_item(())
        s.undo()
        s.add_item(((1, 1),))
        self.assertEqual([s.data(at=at)[0] for at in (0, 1)], [T[0], (*T[0], ((1, 1),))])


class BatchTest(unittest.TestCase):
    def test_example(self):
        s = Session(T)
        expect_error(self, Failed, {"index": 1}, s.apply_all, [("add_item", ()), ("remove_group", 1)])
        self.assertEqual(s.log(), (("add_item", "reverted"), ("remove_group", "NoNumber")))
        self.assertEqual((s.data(), len(s)), (T, 0))

    def test_lists_and_tuples(self):
        for made in BOTH:
            for kind in (list, tuple):
                s = made(T)
                batch = kind([DONE[0], DONE[1], DONE[4], DONE[3]])
                held = copy.deepcopy(batch)
                self.assertIsNone(s.apply_all(batch))
                self.assertEqual(batch, held)
                system = T
                for operation in batch:
                    system = plainly_changed(system, operation)
                self.assertEqual((s.data(), len(s)), (system, 4))
                self.assertEqual(s.log(), tuple((operation[0], "done") for operation in batch))

    def test_empty(self):
        for batch in ([], ()):
            s = Session(T)
            self.assertIsNone(s.apply_all(batch))
            self.assertEqual((s.data(), len(s), s.log()), (T, 0, ()))

    def test_longest(self):
        self.assertEqual(MAX_BATCH, 20)
        for many in (19, 20):
            s = Session(T)
            s.apply_all([("set_limits", 0, 0, number) for number in range(many)])
            self.assertEqual((len(s), s.data()), (many, (T[0], (((0, 1), 0, many - 1),))))
        self.expect_no_batch([("set_limits", 0, 0, number) for number in range(21)])
        self.expect_no_batch((("add_item", None),) * 21)

    def test_later_operations_meet_what_earlier_ones_did(self):
        s = Session(T)
        s.apply_all([("add_item", ()), ("set_gains", 2, ((1, 1),)), ("add_group", ((2,), 1, 1)), ("remove_group", 1)])
        self.assertEqual(s.data(), ((*T[0], ((1, 1),)), T[1]))
        batch = [("remove_group", 0), ("remove_group", 0)]
        expect_error(self, Failed, {"index": 1}, s.apply_all, batch)

    def test_failing_at_each_index(self):
        for made in BOTH:
            for index in range(20):
                for wrong, error, attributes in REFUSED:
                    s = made(T)
                    s.add_item(())
                    s.set_limits(0, 0, 9)
                    s.undo()
                    s.undo()
                    held = facts_of(s)
                    batch = [("set_limits", 0, 0, number) for number in range(20)]
                    batch[index] = wrong
                    expect_error(self, Failed, {"index": index}, s.preview, batch)
                    self.assertEqual(len(s.log()), 4)
                    expect_error(self, Failed, {"index": index}, s.apply_all, batch)
                    self.assertEqual(facts_of(s), held)
                    entries = (("set_limits", "reverted"),) * index + ((wrong[0], error.__name__),)
                    self.assertEqual(s.log()[4:], entries)

    def test_first_of_several_wrong_ones(self):
        s = Session(T)
        batch = [DONE[0], REFUSED[0][0], REFUSED[4][0], DONE[1]]
        expect_error(self, Failed, {"index": 1}, s.apply_all, batch)
        self.assertEqual(s.log(), (("set_gains", "reverted"), ("set_gains", "NoItem")))

    def expect_no_batch(self, value):
        for made in BOTH:
            for limit in (60, 0):
                s = made(T, limit=limit)
                held = copy.deepcopy(value)
                expect_error(self, NoOperations, {}, s.apply_all, value)
                expect_error(self, NoOperations, {}, s.preview, value)
                self.assertEqual((s.data(), len(s), s.log()), (T, 0, ()))
                self.assertEqual(value, held)

    def test_no_batches(self):
        for value in ODD_VALUES:
            if value not in ([], ()):
                self.expect_no_batch(value)
        for value in ("add_item", ("add_item", ()), {"add_item": ()}, {0: ("add_item", ())}, {}, "", 0):
            self.expect_no_batch(value)

    def test_entries_that_are_no_operations(self):
        for entry in (
            *ODD_VALUES,
            (),
            "add_item",
            ["add_item", ()],
            ("add_item",),
            ("add_item", (), ()),
            ("add_group",),
            ("add_group", (0,), 0, 1),
            ("remove_group",),
            ("remove_group", 0, 0),
            ("set_gains", 0),
            ("set_gains", 0, (), ()),
            ("set_limits", 0, 1),
            ("set_limits", 0, 1, 2, 3),
            ("undo",),
            ("undo", 0),
            ("apply_all", []),
            ("choose", (0, 0)),
            ("data",),
            ("", 0),
            ("Add_item", ()),
            ("add_item ", ()),
            ("__len__",),
            (None, ()),
            (True, 0),
            (0, 0),
            (["add_item"], ()),
            (("add_item",), ()),
            ({}, ()),
            ({"add_item": 1}, ()),
            (b"add_item", ()),
        ):
            # No operation is tried before all are looked at.
            for batch in ([entry], (entry,), [("remove_group", 9), entry], [DONE[0], DONE[1], entry]):
                self.expect_no_batch(batch)

    def test_arguments_of_any_kind(self):
        for name, many in ARGUMENTS.items():
            for value in ODD_VALUES:
                s = Session(T)
                expect_error(self, Failed, {"index": 0}, s.apply_all, [(name, *[value] * many)])
                self.assertEqual((s.data(), len(s), len(s.log())), (T, 0, 1))

    def test_blocked_within_a_batch(self):
        s = GuardedSession(T)
        expect_error(self, Failed, {"index": 0}, s.apply_all, [("set_limits", 0, 5, 6), ("set_limits", 0, 0, 1)])
        self.assertEqual(s.log(), (("set_limits", "Blocked"),))
        s = Session(T)
        s.apply_all([("set_limits", 0, 5, 6), ("set_limits", 0, 0, 1)])
        self.assertEqual(len(s), 2)


class LogTest(unittest.TestCase):
    def test_example(self):
        s = Session(T)
        s.add_item(())
        s.undo()
        self.assertEqual(s.log(), (("add_item", "done"), ("undo", "done")))

    def test_across_its_limit(self):
        self.assertEqual(LOG_SIZE, 100)
        s = Session(T)
        entries = []
        for number in range(130):
            if number % 7 == 3:
                self.assertRaises(NoItem, s.set_gains, 9, ())
                entries.append(("set_gains", "NoItem"))
            elif number % 3 == 1:
                s.undo()
                entries.append(("undo", "done"))
            else:
                s.set_limits(0, 0, number)
                entries.append(("set_limits", "done"))
            self.assertEqual(s.log(), tuple(entries[-100:]))
            self.assertIs(type(s.log()), tuple)

    def test_batches_across_its_limit(self):
        for start in (79, 80, 81, 85, 98, 99, 100, 105):
            s = Session(T)
            entries = []
            for number in range(start):
                self.assertRaises(NothingToUndo, s.undo)
                entries.append(("undo", "NothingToUndo"))
            batch = [("set_limits", 0, 0, number) for number in range(20)]
            s.apply_all(batch)
            entries.extend([("set_limits", "done")] * 20)
            self.assertEqual(s.log(), tuple(entries[-100:]))
            batch[15] = ("add_item", None)
            self.assertRaises(Failed, s.apply_all, batch)
            entries.extend([("set_limits", "reverted")] * 15 + [("add_item", "NoGains")])
            self.assertEqual(s.log(), tuple(entries[-100:]))

    def test_each_outcome(self):
        s = GuardedSession(T, limit=4)
        for operation, error, attributes in REFUSED:
            self.assertRaises(error, call, s, operation)
            self.assertEqual(s.log()[-1], (operation[0], error.__name__))
        self.assertRaises(Blocked, s.set_limits, 0, 5, 6)
        self.assertEqual(s.log()[-1], ("set_limits", "Blocked"))
        for number in range(4):
            s.add_item(())
        self.assertRaises(TooMany, s.add_item, ())
        self.assertEqual(s.log()[-2:], (("add_item", "done"), ("add_item", "TooMany")))

    def test_what_leaves_no_entry(self):
        s = Session(N)
        for value in (None, [None], [("undo",)]):
            self.assertRaises(NoOperations, s.apply_all, value)
            self.assertRaises(NoOperations, s.preview, value)
        self.assertRaises(NoFit, s.totals)
        self.assertRaises(NoFit, s.best)
        for query in (s.data, s.totals, s.best):
            self.assertRaises(NoMoment, query, at=1)
        self.assertRaises(NoPlan, s.choose, (0, 0))
        self.assertRaises(Failed, s.preview, [("remove_group", 5)])
        s.preview([("remove_group", 0)])
        s.clone()
        self.assertEqual((str(s), len(s), s == s.clone(), s.gain, s.plan), ("2 items, 1 groups, gain none", 0, True, None, None))
        self.assertEqual(Session.from_text(format_system(N)).log(), ())
        self.assertEqual(s.log(), ())


class MomentTest(unittest.TestCase):
    def test_example(self):
        s = Session(T)
        s.add_item(())
        self.assertTrue(s.data(at=0) == T)

    def test_example_of_queries(self):
        s = Session(S)
        self.assertEqual((s.totals(), s.best()), ((2, 4), (2, 1, 1)))

    def test_each_moment(self):
        for made in BOTH:
            s = made(S)
            systems = [S]
            for operation in (("set_limits", 1, 3, 3), ("add_item", ((1, 9),)), ("remove_group", 0), ("set_gains", 0, ())):
                call(s, operation)
                systems.append(plainly_changed(systems[-1], operation))
            for at, system in enumerate(systems):
                self.assertEqual(s.data(at=at), system)
                self.assertEqual(s.totals(at=at), totals_of(system))
                self.assertEqual(s.best(at=at), best_plan(system))
            for query in (s.data, s.totals, s.best):
                self.assertEqual(query(), query(at=4))
                self.assertEqual(query(at=None), query(at=4))

    def test_no_moments(self):
        s = Session(T)
        s.add_item(())
        s.add_item(())
        s.undo()
        self.assertRaises(Failed, s.apply_all, [("add_item", ()), ("add_item", None)])
        for at in (*[value for value in ODD_VALUES if value is not None], -1, 2, 3, "0", "1", (0,), [1], {1: 1}):
            for query in (s.data, s.totals, s.best):
                with self.assertRaises(NoMoment) as caught:
                    query(at=at)
                self.assertIs(type(caught.exception), NoMoment)
                self.assertEqual(list(vars(caught.exception)), ["at"])
                self.assertIs(caught.exception.at, at)

    def test_no_moment_before_no_fit(self):
        s = Session(N)
        for at in (True, False, 1, -1, "", ()):
            for query in (s.totals, s.best):
                self.assertRaises(NoMoment, query, at=at)

    def test_no_fit_at_some_moments(self):
        s = Session(T)
        s.set_limits(0, 5, 6)
        s.set_limits(0, 0, 1)
        self.assertEqual((s.totals(), s.best(), s.totals(at=0)), ((0, 1), (0, 1), (0, 2)))
        for query in (s.totals, s.best):
            with self.assertRaises(NoFit) as caught:
                query(at=1)
            self.assertTrue(is_contradiction(s.data(at=1), caught.exception.contradiction))

    def test_at_is_passed_by_name(self):
        s = Session(T)
        for query in (s.data, s.totals, s.best):
            self.assertRaises(TypeError, query, 0)


class GuardedTest(unittest.TestCase):
    def test_each_kind_of_operation(self):
        for operation in BLOCKED:
            s = GuardedSession(TIGHT)
            s.choose((2, 1, 1))
            held = facts_of(s)
            shown = contradiction_after(self, s, operation)
            self.assertTrue(is_contradiction(plainly_changed(TIGHT, operation), shown))
            self.assertEqual(contradiction_after(self, s, operation), shown)
            self.assertEqual(facts_of(s), held)
            self.assertEqual(s.log(), ((operation[0], "Blocked"),) * 2)
            expect_error(self, Failed, {"index": 0}, s.apply_all, [operation])
            expect_error(self, Failed, {"index": 1}, s.preview, [("add_item", ()), operation])
            # Without a guard all of them are done.
            free = Session(TIGHT)
            call(free, operation)
            self.assertIsNone(free.gain)

    def test_removing_and_adding_items_is_never_blocked(self):
        s = GuardedSession(TIGHT)
        s.add_item(())
        s.remove_group(0)
        s.remove_group(0)
        self.assertEqual(len(s), 3)

    def test_blocked_last_of_all(self):
        # No plan fits what these would make of the system, but they are wrong besides.
        s = GuardedSession(HUGE)
        expect_error(self, NoGroup, {}, s.add_group, ((0,), LIMIT, LIMIT))
        with self.assertRaises(TooMany) as caught:
            s.add_group(((1,), LIMIT, LIMIT))
        self.assertEqual(caught.exception.limit, 8)
        expect_error(self, NoLimits, {}, s.set_limits, 0, LIMIT, LIMIT + 1)
        expect_error(self, NoNumber, {"number": 8}, s.set_limits, 8, LIMIT, LIMIT)

    def test_limits_that_just_fit(self):
        s = GuardedSession(T)
        s.set_limits(0, 4, 4)
        self.assertEqual((s.gain, s.best()), (12, (2, 2)))
        self.assertRaises(Blocked, s.set_limits, 0, 5, 5)
        self.assertRaises(Blocked, s.set_gains, 0, ((1, 3),))
        s.add_group(((0,), 0, 2))
        self.assertRaises(Blocked, s.set_limits, 1, 0, 1)

    def test_a_plan_always_fits(self):
        numbers = Numbers(31)
        blocked = 0
        for system in small_systems(120, 9):
            if certificate(system)[0] == "totals":
                s = GuardedSession(system)
                for number in range(40):
                    try:
                        call(s, made_operation(numbers, s.data()))
                    except Blocked:
                        blocked += 1
                    except CapError:
                        pass
                    if numbers.below(4) == 0 and len(s) > 0:
                        s.undo()
                    self.assertEqual(certificate(s.data())[0], "totals")
                    self.assertIsNotNone(s.gain)
        self.assertGreater(blocked, 50)


class ModelTest(unittest.TestCase):
    """Long ways of operations, batches and undos, beside a session that works everything out anew."""

    def check(self, session, model):
        system = model.systems[-1]
        self.assertEqual(session.data(), system)
        self.assertEqual(len(session), len(model.systems) - 1)
        self.assertEqual(session.log(), tuple(model.entries[-100:]))
        fitting = certificate(system)[0] == "totals"
        gain = greatest_gain(system) if fitting else None
        self.assertEqual(session.gain, gain)
        word = "none" if gain is None else gain
        start = "guarded, " if model.guarded else ""
        self.assertEqual(str(session), f"{start}{len(system[0])} items, {len(system[1])} groups, gain {word}")
        self.assertEqual(session.plan, model.chosen if fits(system, model.chosen) else None)
        for at, before in enumerate(model.systems):
            self.assertEqual(session.data(at=at), before)

    def same(self, function, error, *arguments):
        """The call does what the model did: it returns None, or raises such an exception."""
        if error is None:
            self.assertIsNone(function(*arguments))
        else:
            with self.assertRaises(CapError) as caught:
                function(*arguments)
            self.assertIs(type(caught.exception), type(error))
            self.assertEqual(vars(caught.exception), vars(error))

    def step(self, numbers, session, model):
        chance = numbers.below(10)
        if chance < 6:
            operation = made_operation(numbers, model.systems[-1])
            self.same(getattr(session, operation[0]), model.perform(operation), *operation[1:])
        elif chance < 7:
            self.same(session.undo, model.undo())
        elif chance < 9:
            batch = [made_operation(numbers, model.systems[-1]) for number in range(numbers.below(5))]
            self.same(session.apply_all, model.apply_all(batch), batch)
        else:
            plan = tuple(numbers.below(3) for gains in model.systems[-1][0])
            self.same(session.choose, model.choose(plan), plan)

    def walk(self, made, start, limit):
        numbers = Numbers(start)
        systems = [system for system in small_systems(30, start) if certificate(system)[0] == "totals"]
        for system in systems[:12]:
            session = made(system, limit=limit)
            model = Model(system, made is GuardedSession, limit)
            for number in range(60):
                self.step(numbers, session, model)
                self.check(session, model)
            while len(session) > 0:
                self.same(session.undo, model.undo())
                self.check(session, model)
            self.assertEqual(session.data(), system)

    def test_sessions(self):
        self.walk(Session, 3, 60)
        self.walk(Session, 4, 5)

    def test_guarded_sessions(self):
        self.walk(GuardedSession, 5, 60)
        self.walk(GuardedSession, 6, 5)


class CloneTest(unittest.TestCase):
    def made(self, kind):
        s = kind(S, limit=7)
        s.add_item(((1, 9),))
        s.choose((2, 1, 1, 1))
        s.set_limits(0, 0, 2)
        self.assertRaises(NoItem, s.set_gains, 9, ())
        s.remove_group(1)
        s.undo()
        return s

    def test_same_in_everything(self):
        for kind in BOTH:
            s = self.made(kind)
            other = s.clone()
            self.assertIs(type(other), kind)
            self.assertTrue(other == s)
            self.assertIsNot(other, s)
            self.assertEqual(facts_of(other), facts_of(s))
            self.assertEqual(other.log(), s.log())
            for session in (s, other):
                session.apply_all([("set_limits", 0, 0, 3)] * 5)
                with self.assertRaises(TooMany) as caught:
                    session.add_item(())
                self.assertEqual(caught.exception.limit, 7)
            self.assertEqual(facts_of(other), facts_of(s))
            self.assertEqual(other.log(), s.log())

    def test_example(self):
        s = Session(S)
        self.assertTrue(s.clone() == s)

    def test_independent(self):
        for kind in BOTH:
            for first in (0, 1):
                s = self.made(kind)
                pair = (s, s.clone())
                one, other = pair[first], pair[1 - first]
                held = (facts_of(other), other.log())
                one.set_gains(0, ())
                one.choose((0, 2, 1, 0))
                one.apply_all([("remove_group", 0), ("add_item", ())])
                self.assertRaises(NoNumber, one.remove_group, 9)
                self.assertEqual((facts_of(other), other.log()), held)
                while len(one) > 0:
                    one.undo()
                self.assertRaises(NothingToUndo, one.undo)
                self.assertEqual((facts_of(other), other.log()), held)
                self.assertEqual(one.data(), S)
                other.undo()
                other.undo()
                self.assertEqual(other.data(), S)
                self.assertRaises(NothingToUndo, other.undo)

    def test_plan_that_does_not_fit(self):
        s = Session(T)
        s.choose((1, 1))
        s.set_limits(0, 0, 1)
        other = s.clone()
        self.assertIsNone(other.plan)
        other.undo()
        self.assertEqual((other.plan, s.plan), ((1, 1), None))
        s.undo()
        self.assertEqual(s.plan, (1, 1))

    def test_full_session(self):
        s = Session(T)
        for number in range(60):
            s.set_limits(0, 0, number)
        for number in range(50):
            self.assertRaises(TooMany, s.add_item, ())
        other = s.clone().clone()
        self.assertEqual(facts_of(other), facts_of(s))
        self.assertEqual(other.log(), s.log())
        self.assertEqual(len(other.log()), 100)

    def test_clone_without_a_plan_that_fits(self):
        other = Session(N).clone()
        self.assertEqual((other.data(), other.gain), (N, None))


class PreviewTest(unittest.TestCase):
    def test_example(self):
        s = Session(N)
        self.assertEqual((s.preview([("set_gains", 0, ())]), len(s)), (("never", ((0,), ((), (0, 1)))), 0))

    def test_certificates(self):
        for made in BOTH:
            s = made(S)
            s.add_item(())
            s.choose((2, 1, 1, 0))
            held = (facts_of(s), s.log())
            operations = (("add_item", ((2, 2),)), ("set_limits", 0, 1, 2), ("remove_group", 1), ("add_group", ((3, 4), 1, 1)))
            system = s.data()
            self.assertEqual(s.preview([]), certificate(system))
            for many, operation in enumerate(operations):
                system = plainly_changed(system, operation)
                for batch in (list(operations[: many + 1]), operations[: many + 1]):
                    shown = s.preview(batch)
                    self.assertTrue(is_certificate(system, shown))
                    self.assertEqual(shown, certificate(system))
                    self.assertEqual(shown[0], "totals")
                self.assertEqual((facts_of(s), s.log()), held)

    def test_no_plan_fits_then(self):
        s = Session(T)
        batch = [("add_item", ()), ("set_limits", 0, 5, 9)]
        shown = s.preview(batch)
        self.assertEqual(shown[0], "never")
        self.assertTrue(is_certificate(((*T[0], ()), (((0, 1), 5, 9),)), shown))
        s = GuardedSession(T)
        expect_error(self, Failed, {"index": 1}, s.preview, batch)
        self.assertEqual((s.data(), s.log()), (T, ()))

    def test_as_apply_all(self):
        numbers = Numbers(17)
        failed = 0
        for system in small_systems(60, 4):
            for made in BOTH:
                if made is GuardedSession and certificate(system)[0] == "never":
                    continue
                s = made(system, limit=3)
                batch = [made_operation(numbers, system) for number in range(numbers.below(5))]
                held = (facts_of(s), s.log())
                other = s.clone()
                try:
                    other.apply_all(batch)
                except Failed as error:
                    failed += 1
                    expect_error(self, Failed, {"index": error.index}, s.preview, batch)
                else:
                    self.assertEqual(s.preview(batch), certificate(other.data()))
                self.assertEqual((facts_of(s), s.log()), held)
        self.assertGreater(failed, 20)


class FromTextTest(unittest.TestCase):
    def test_example(self):
        s = GuardedSession.from_text("item 2*3\nitem 2*3\ngroup 0,1 0 2\n")
        self.assertEqual(str(s), "guarded, 2 items, 1 groups, gain 6")

    def test_systems(self):
        for system in (S, T, HUGE):
            for made in BOTH:
                s = made.from_text(format_system(system))
                self.assertIs(type(s), made)
                self.assertEqual((s.data(), len(s), s.log(), s.plan), (system, 0, (), None))
                self.assertTrue(s == made(system))
        self.assertEqual(Session.from_text(format_system(N)).data(), N)

    def test_limit(self):
        s = Session.from_text(format_system(T))
        for number in range(60):
            s.set_limits(0, 0, number)
        with self.assertRaises(TooMany) as caught:
            s.add_item(())
        self.assertEqual(caught.exception.limit, 60)

    def test_off_sessions(self):
        self.assertIs(type(Session(S).from_text("item\n")), Session)
        self.assertIs(type(GuardedSession(S).from_text("item\n")), GuardedSession)

    def test_bad_texts(self):
        for made in BOTH:
            for value in ODD_VALUES:
                line = 0 if isinstance(value, str) else None
                expect_error(self, BadText, {"line": line}, made.from_text, value)
            # No plan fits the lines that stand before the wrong one.
            text = "item 1*5\ngroup 0 3 4\nitem\n"
            expect_error(self, BadText, {"line": 2}, made.from_text, text)

    def test_blocked(self):
        with self.assertRaises(Blocked) as caught:
            GuardedSession.from_text(format_system(N))
        self.assertIs(type(caught.exception), Blocked)
        self.assertTrue(is_contradiction(N, caught.exception.contradiction))


class NamesTest(unittest.TestCase):
    def test_operation_names(self):
        for held in (Session, GuardedSession, Session(T), GuardedSession(T)):
            self.assertEqual(held.operation_names(), NAMES)
            self.assertIs(type(held.operation_names()), tuple)

    def test_limit(self):
        for held in (Session, GuardedSession, Session(T, limit=3), GuardedSession(T)):
            self.assertEqual(held.LIMIT, MAX_OPERATIONS)
            self.assertIs(type(held.LIMIT), int)


class PlanTest(unittest.TestCase):
    def test_examples(self):
        s = Session(S)
        s.choose((2, 0, 1))
        self.assertEqual((Session.LIMIT, s.gain, s.plan), (60, 17, (2, 0, 1)))
        s = Session(S)
        expect_error(self, NoPlan, {}, s.choose, (3, 3, 0))

    def test_gain_cannot_be_assigned(self):
        for made in BOTH:
            s = made(S)
            for value in (17, 18, None):
                with self.assertRaises(AttributeError):
                    s.gain = value
            self.assertEqual(s.gain, 17)

    def test_properties(self):
        for name in ("gain", "plan"):
            self.assertIsInstance(vars(Session)[name], property)
        self.assertIsNone(vars(Session)["gain"].fset)
        self.assertIsNotNone(vars(Session)["plan"].fset)

    def test_gain_follows_the_system(self):
        s = Session(S)
        s.set_gains(0, ((3, -5),))
        self.assertEqual(s.gain, greatest_gain(s.data()))
        s.set_limits(1, 20, 20)
        self.assertIsNone(s.gain)
        s.undo()
        s.undo()
        self.assertEqual(s.gain, 17)
        self.assertRaises(Failed, s.apply_all, [("set_gains", 0, ()), ("set_gains", 9, ())])
        self.assertEqual(s.gain, 17)

    def assign(self, session, value):
        session.plan = value

    def test_assigned_or_chosen(self):
        for made in BOTH:
            for ways in ((lambda s, plan: s.choose(plan)), self.assign):
                s = made(S)
                self.assertIsNone(s.plan)
                for plan in ((2, 0, 1), (2, 1, 1), (0, 0, 2)):
                    self.assertIsNone(ways(s, plan))
                    self.assertEqual(s.plan, plan)
                for value in UNFIT:
                    held = copy.deepcopy(value)
                    expect_error(self, NoPlan, {}, ways, s, value)
                    self.assertEqual(value, held)
                    self.assertEqual(s.plan, (0, 0, 2))
                self.assertEqual((s.log(), len(s)), ((), 0))

    def test_goes_and_comes_back(self):
        s = Session(T)
        s.choose((1, 1))
        s.set_limits(0, 0, 1)
        self.assertIsNone(s.plan)
        s.add_item(())
        self.assertIsNone(s.plan)
        s.undo()
        s.undo()
        self.assertEqual(s.plan, (1, 1))
        s.add_item(((1, 1),))
        self.assertIsNone(s.plan)
        s.choose((1, 0, 1))
        s.undo()
        # The plan that was assigned last is one of three items, whatever was assigned before.
        self.assertIsNone(s.plan)
        s.add_item(((1, 4),))
        self.assertEqual(s.plan, (1, 0, 1))

    def test_comes_back_by_operations(self):
        s = Session(T)
        s.choose((1, 1))
        s.set_gains(0, ())
        self.assertIsNone(s.plan)
        s.set_gains(0, ((1, -1),))
        self.assertEqual(s.plan, (1, 1))

    def test_wrong_plan_while_the_last_one_does_not_fit(self):
        s = Session(T)
        s.choose((1, 1))
        s.set_limits(0, 0, 1)
        expect_error(self, NoPlan, {}, s.choose, (1, 1))
        expect_error(self, NoPlan, {}, s.choose, None)
        s.undo()
        self.assertEqual(s.plan, (1, 1))

    def test_no_plan_fits(self):
        s = Session(N)
        for value in ((0, 0), (1, 1), None):
            expect_error(self, NoPlan, {}, s.choose, value)
        self.assertIsNone(s.plan)

    def test_equality_and_str_do_not_depend_on_it(self):
        s = Session(T)
        s.choose((0, 1))
        self.assertTrue(s == Session(T))
        self.assertEqual(str(s), str(Session(T)))


class EqualityTest(unittest.TestCase):
    def test_different_ways(self):
        for made in BOTH:
            one = made(T)
            one.apply_all([("add_item", ()), ("set_gains", 2, ((1, 1),)), ("set_limits", 0, 1, 1)])
            other = made(((*T[0], ((1, 1),)), (((0, 1), 1, 1),)), limit=4)
            third = made(T, limit=9)
            third.set_limits(0, 1, 1)
            third.add_item(((1, 1),))
            self.assertRaises(NoItem, third.set_gains, 5, ())
            for first in (one, other, third):
                for second in (one, other, third):
                    self.assertTrue(first == second)
                    self.assertFalse(first != second)
            third.undo()
            self.assertFalse(one == third)
            self.assertTrue(one != third)
            one.undo()
            self.assertFalse(one == other)

    def test_each_difference(self):
        for made in BOTH:
            for operation in DONE:
                one = made(T)
                call(one, operation)
                self.assertFalse(one == made(T))
                self.assertTrue(made(T) != one)
                one.undo()
                self.assertTrue(one == made(T))

    def test_guarded_or_not(self):
        self.assertFalse(Session(T) == GuardedSession(T))
        self.assertFalse(GuardedSession(T) == Session(T))
        self.assertTrue(Session(T) != GuardedSession(T))
        self.assertTrue(GuardedSession(T) == GuardedSession(T))

    def test_other_values(self):
        for made in BOTH:
            s = made(S)
            for value in (*ODD_VALUES, S, str(s), 0, (), object()):
                self.assertFalse(s == value)
                self.assertFalse(value == s)
                self.assertTrue(s != value)
            self.assertNotIn(s, [S, None, str(s)])


class StrTest(unittest.TestCase):
    def test_numbers_with_the_same_words(self):
        self.assertEqual(str(Session(((((1, 1),),), ()))), "1 items, 0 groups, gain 1")
        self.assertEqual(str(Session((((),), (((0,), 0, 0),)))), "1 items, 1 groups, gain 0")
        self.assertEqual(str(Session(N)), "2 items, 1 groups, gain none")
        loss = ((((3, -2),), ((3, -2),)), (((0, 1), 4, 5),))
        self.assertEqual(str(Session(loss)), "2 items, 1 groups, gain -8")
        self.assertEqual(str(GuardedSession(loss)), "guarded, 2 items, 1 groups, gain -8")
        self.assertEqual(str(Session(HUGE)), f"6 items, 8 groups, gain {greatest_gain(HUGE)}")

    def test_follows_the_system(self):
        s = GuardedSession(T)
        s.add_item(((2, 5),))
        self.assertEqual((str(s), len(s)), ("guarded, 3 items, 1 groups, gain 16", 1))
        s.remove_group(0)
        self.assertEqual((str(s), len(s)), ("guarded, 3 items, 0 groups, gain 22", 2))
        s.undo()
        self.assertEqual((str(s), len(s)), ("guarded, 3 items, 1 groups, gain 16", 1))


class SpeedTest(unittest.TestCase):
    def test_large_systems(self):
        with within(1):
            s = GuardedSession(HUGE)
            for number in range(59):
                s.set_limits(6, 0, LIMIT - number)
            s.set_gains(5, ((LIMIT, 5),))
            s.clone()
            self.assertEqual(s.best(), s.best(at=60))
            while len(s) > 0:
                s.undo()

    def test_short_ways_to_the_same(self):
        for number in range(2):
            s = Session(S)
            for operation in (("add_item", ((1, 9),)), ("set_limits", 0, 0, 2)):
                call(s, operation)
            self.assertEqual((s.best(), s.totals(), s.preview([])), ((2, 0, 1, 1), (2, 5), certificate(s.data())))


if __name__ == "__main__":
    unittest.main()
