"""[72] to [74]: the console."""

import copy
import re
import unittest

from groupcaps.best import best_plan, gain_at, greatest_gain, plan_at
from groupcaps.consoles import Console
from groupcaps.evidence import is_gaining, price_bound
from groupcaps.sessions import GuardedSession, Session
from groupcaps.systems import fits, gain_of
from groupcaps.texts import format_plan
from groupcaps.totals import certificate, totals_of
from samples import (
    HUGE,
    LIMIT,
    N,
    ODD_VALUES,
    S,
    T,
    all_plans,
    fitting_facts,
    fitting_large_systems,
    unfit_systems,
    within,
)

SYNTAX_ERROR = "syntax error"
NUMBER = r"(?:0|[1-9][0-9]{0,12})"
LIST = rf"{NUMBER}(?:,{NUMBER})*"
STEPS = rf"(?: {NUMBER}\*(?:0|-?[1-9][0-9]{{0,12}}))*"
LINES = re.compile(
    rf"gains {NUMBER}{STEPS}|limits {NUMBER} {NUMBER} {NUMBER}|group {LIST} {NUMBER} {NUMBER}|remove {NUMBER}"
    rf"|item{STEPS}|undo|totals|best|gain|prices|at {NUMBER}|judge {LIST}"
)
CHARACTERS = "\n *,-+019 .gainsGx\t_"

# One line of each command that is done for S.
DONE = (
    "gains 1 4*2 1*-3",
    "limits 0 1 3",
    "group 2 0 3",
    "remove 1",
    "item 2*1",
    "item",
    "undo",
    "totals",
    "best",
    "gain",
    "prices",
    "at 3",
    "judge 2,0,1",
)


def facts_of(session):
    return (session.data(), len(session), session.log(), session.plan, session.gain)


class ExampleTest(unittest.TestCase):
    def test_uses_the_session_itself(self):
        s = Session(T)
        c = Console(s)
        answer = c.execute("limits 0 0 3")
        self.assertEqual((answer, s.gain), ("done", 9))

    def test_execute(self):
        c = Console(Session(S))
        answers = (c.execute("judge 3,0,1"), c.execute("at 3"), c.execute("at 9"), c.execute("best 1"))
        self.assertEqual(answers, ("move 0 1", "2 0 1", "error NoTotal", "syntax error"))

    def test_history(self):
        c = Console(Session(T))
        c.execute("undo")
        c.execute(None)
        self.assertEqual(c.history(), (("undo", "error NothingToUndo"), (None, "syntax error")))


class OperationTest(unittest.TestCase):
    def check_done(self, line, operation):
        """The line does to a session what the method does."""
        for made in (Session, GuardedSession):
            session, other = made(S), made(S)
            for each in (session, other):
                each.add_item(((1, 1),))
            self.assertEqual(Console(session).execute(line), "done")
            getattr(other, operation[0])(*operation[1:])
            self.assertEqual(facts_of(session), facts_of(other))

    def test_done(self):
        self.check_done("gains 0", ("set_gains", 0, ()))
        self.check_done("gains 3 1*2", ("set_gains", 3, ((1, 2),)))
        self.check_done("gains 1 4*2 1*0 10*-3", ("set_gains", 1, ((4, 2), (1, 0), (10, -3))))
        self.check_done("gains 2 999999999999*1000000 1*-1000000", ("set_gains", 2, ((LIMIT - 1, 10 ** 6), (1, -(10 ** 6)))))
        self.check_done("limits 0 0 0", ("set_limits", 0, 0, 0))
        self.check_done("limits 1 3 1000000000000", ("set_limits", 1, 3, LIMIT))
        self.check_done("group 3 0 1", ("add_group", ((3,), 0, 1)))
        self.check_done("group 0,1,2,3 2 10", ("add_group", ((0, 1, 2, 3), 2, 10)))
        self.check_done("remove 0", ("remove_group", 0))
        self.check_done("remove 1", ("remove_group", 1))
        self.check_done("item", ("add_item", ()))
        self.check_done("item 5*-5", ("add_item", ((5, -5),)))
        self.check_done("item 5*5 4*4 3*3 2*2 1*1", ("add_item", ((5, 5), (4, 4), (3, 3), (2, 2), (1, 1))))
        self.check_done("undo", ("undo",))

    def check_refused(self, session, line, word, name):
        """The method raises this exception: nothing changes but the log."""
        held = facts_of(session)
        self.assertEqual(Console(session).execute(line), f"error {name}")
        log = held[2] + ((word, name),)
        self.assertEqual(facts_of(session), held[:2] + (log,) + held[3:])

    def test_refused(self):
        for made in (Session, GuardedSession):
            s = made(S)
            self.check_refused(s, "undo", "undo", "NothingToUndo")
            self.check_refused(s, "gains 3", "set_gains", "NoItem")
            self.check_refused(s, "gains 3 0*1", "set_gains", "NoItem")
            self.check_refused(s, "gains 0 0*1", "set_gains", "NoGains")
            self.check_refused(s, "gains 0 1*1 1*1", "set_gains", "NoGains")
            self.check_refused(s, "limits 2 0 1", "set_limits", "NoNumber")
            self.check_refused(s, "limits 2 1 0", "set_limits", "NoNumber")
            self.check_refused(s, "limits 0 2 1", "set_limits", "NoLimits")
            self.check_refused(s, "group 0,1 0 1", "add_group", "NoGroup")
            self.check_refused(s, "group 1,0 0 1", "add_group", "NoGroup")
            self.check_refused(s, "group 0,0 0 1", "add_group", "NoGroup")
            self.check_refused(s, "group 3 0 1", "add_group", "NoGroup")
            self.check_refused(s, "group 0 2 1", "add_group", "NoGroup")
            self.check_refused(s, "remove 2", "remove_group", "NoNumber")
            self.check_refused(s, "item 1*1 1*2", "add_item", "NoGains")
            self.check_refused(s, "item 1*6 1*5 1*4 1*3 1*2 1*1", "add_item", "NoGains")

    def test_numbers_that_are_too_great(self):
        s = Session(S)
        great = "9999999999999"
        self.check_refused(s, f"gains {great} 1*1", "set_gains", "NoItem")
        self.check_refused(s, f"gains 0 {great}*1", "set_gains", "NoGains")
        self.check_refused(s, f"gains 0 1*{great}", "set_gains", "NoGains")
        self.check_refused(s, f"gains 0 1*-{great}", "set_gains", "NoGains")
        self.check_refused(s, "gains 0 1*1000001", "set_gains", "NoGains")
        self.check_refused(s, f"limits {great} 0 1", "set_limits", "NoNumber")
        self.check_refused(s, f"limits 0 0 {great}", "set_limits", "NoLimits")
        self.check_refused(s, f"limits 0 {great} {great}", "set_limits", "NoLimits")
        self.check_refused(s, f"group {great} 0 1", "add_group", "NoGroup")
        self.check_refused(s, f"group 0,{great} 0 1", "add_group", "NoGroup")
        self.check_refused(s, f"group 0 0 {great}", "add_group", "NoGroup")
        self.check_refused(s, f"remove {great}", "remove_group", "NoNumber")
        self.check_refused(s, f"item {great}*1", "add_item", "NoGains")
        self.check_refused(s, "group " + ",".join(["0"] * 2000) + " 0 1", "add_group", "NoGroup")
        self.check_refused(s, "item" + " 1*1" * 1000, "add_item", "NoGains")

    def test_too_many(self):
        s = Session(S, limit=0)
        for line, word in (
            ("gains 9 0*0", "set_gains"),
            ("limits 9 1 0", "set_limits"),
            ("group 9 1 0", "add_group"),
            ("remove 9", "remove_group"),
            ("item 0*0", "add_item"),
        ):
            self.check_refused(s, line, word, "TooMany")
        s = Session(HUGE)
        self.check_refused(s, "item", "add_item", "TooMany")
        self.check_refused(s, "group 1 0 1", "add_group", "TooMany")

    def test_blocked(self):
        s = GuardedSession(T)
        self.check_refused(s, "limits 0 5 6", "set_limits", "Blocked")
        self.assertEqual(Console(s).execute("limits 0 4 6"), "done")
        self.check_refused(s, "gains 1 1*3", "set_gains", "Blocked")
        self.check_refused(s, "group 0 0 1", "add_group", "Blocked")

    def test_undo(self):
        s = Session(S)
        c = Console(s)
        for line in ("item 1*1", "remove 0", "undo", "undo"):
            self.assertEqual(c.execute(line), "done")
        self.assertEqual((s.data(), len(s)), (S, 0))
        self.assertEqual(c.execute("undo"), "error NothingToUndo")


class QueryTest(unittest.TestCase):
    def ask(self, system, line):
        """The answer; asking changes nothing."""
        session = Session(system)
        held = facts_of(session)
        with within(1):
            answer = Console(session).execute(line)
        self.assertEqual(facts_of(session), held)
        self.assertIs(type(answer), str)
        return answer

    def test_chosen(self):
        self.assertEqual(self.ask(S, "totals"), "2 4")
        self.assertEqual(self.ask(S, "best"), "2 1 1")
        self.assertEqual(self.ask(S, "gain"), "17")
        self.assertEqual(self.ask(S, "at 2"), "2 0 0")
        self.assertEqual(self.ask(S, "judge 2,1,1"), "best")
        self.assertEqual(self.ask(T, "judge 0,1"), "more 0")
        self.assertEqual(self.ask(((((3, -2),),), (((0,), 0, 2),)), "judge 2"), "less 0")
        self.assertEqual(self.ask(((((3, -2),),), (((0,), 1, 2),)), "gain"), "-2")
        self.assertEqual(self.ask((((),), ()), "gain"), "0")
        self.assertEqual(self.ask((((),), ()), "totals"), "0 0")
        self.assertEqual(self.ask((((),), ()), "best"), "0")

    def check_prices(self, system):
        answer = self.ask(system, "prices")
        if system[1]:
            prices = tuple(int(word) for word in answer.split(" "))
            self.assertEqual(" ".join(str(price) for price in prices), answer)
            self.assertEqual(price_bound(system, prices), greatest_gain(system))
        else:
            self.assertEqual(answer, "-")

    def check_queries(self, system):
        low, high = totals_of(system)
        self.assertEqual(self.ask(system, "totals"), f"{low} {high}")
        self.assertEqual(self.ask(system, "best"), " ".join(str(units) for units in best_plan(system)))
        self.assertEqual(self.ask(system, "gain"), str(greatest_gain(system)))
        for total in (low, (low + high) // 2, high):
            answer = self.ask(system, f"at {total}")
            self.assertEqual(answer, format_plan(plan_at(system, total)))
            plan = tuple(int(word) for word in answer.split(" "))
            self.assertEqual((sum(plan), gain_of(system, plan)), (total, gain_at(system, total)))
        self.check_prices(system)

    def test_small_systems(self):
        for facts in fitting_facts()[::4]:
            self.check_queries(facts.system)

    def test_large_systems(self):
        for system in fitting_large_systems():
            self.check_queries(system)
            listed = ",".join(str(units) for units in best_plan(system))
            self.assertEqual(self.ask(system, f"judge {listed}"), "best")

    def check_judgement(self, facts, plan):
        answer = self.ask(facts.system, "judge " + ",".join(str(units) for units in plan))
        if plan not in facts.plans:
            self.assertEqual(answer, "error NoPlan")
        elif plan in facts.best:
            self.assertEqual(answer, "best")
        else:
            word, *numbers = answer.split(" ")
            self.assertTrue(is_gaining(facts.system, plan, (word, *[int(number) for number in numbers])))

    def test_judgements(self):
        for facts in fitting_facts()[::10]:
            for plan in list(all_plans(facts.system))[:40]:
                self.check_judgement(facts, plan)

    def test_no_plans(self):
        for listed in ("4,0,0", "3,3,0", "2,1", "2,1,1,0", "0,0,0", "9999999999999,0,0", "0", ",".join(["0"] * 99)):
            self.assertEqual(self.ask(S, f"judge {listed}"), "error NoPlan")
        self.assertEqual(self.ask(N, "judge 1,1"), "error NoPlan")
        self.assertEqual(self.ask(N, "judge 7"), "error NoPlan")

    def test_no_totals(self):
        for total in (0, 1, 5, LIMIT, 9999999999999):
            self.assertEqual(self.ask(S, f"at {total}"), "error NoTotal")

    def test_no_fit(self):
        for system in (N, *unfit_systems()[:20]):
            for line in ("totals", "best", "gain", "prices", "at 0", "at 3", "at 9999999999999"):
                self.assertEqual(self.ask(system, line), "error NoFit")

    def test_current_state_of_the_session(self):
        s = Session(S)
        c = Console(s)
        self.assertEqual((c.execute("gain"), c.execute("totals")), ("17", "2 4"))
        s.set_limits(1, 0, 5)
        self.assertEqual((c.execute("gain"), c.execute("totals")), ("17", "0 5"))
        s.remove_group(0)
        self.assertEqual((c.execute("gain"), c.execute("best")), ("20", "2 2 1"))
        s.remove_group(0)
        self.assertEqual((c.execute("prices"), c.execute("best")), ("-", "3 3 1"))
        s.set_gains(0, ())
        self.assertEqual((c.execute("best"), c.execute("totals")), ("0 3 1", "0 6"))


class SyntaxTest(unittest.TestCase):
    def expect_error(self, line):
        for system in (S, N):
            session = Session(system)
            session.add_item(((1, 1),))
            held = facts_of(session)
            kept = copy.deepcopy(line)
            console = Console(session)
            self.assertEqual(console.execute(line), SYNTAX_ERROR, str(line)[:80])
            self.assertEqual(line, kept)
            self.assertEqual(facts_of(session), held)
            self.assertEqual(console.history(), ((line if isinstance(line, str) else None, SYNTAX_ERROR),))

    def test_odd_values(self):
        for value in (*ODD_VALUES, b"undo", ["undo"], ("undo",), {"undo": 1}, ("gains", 0), S):
            if value != "totals":
                self.expect_error(value)

    def test_no_commands(self):
        for line in ("", " ", "\n", "Undo", "undo\n", "\nundo", " undo", "undo ", "undo undo", "undo 1", "undo\titem"):
            self.expect_error(line)
        for line in ("totals 1", "best 1", "gain 0", "prices 0", "prices ", "-", "error", "done", "help", "add_item", "0"):
            self.expect_error(line)
        for line in ("set_gains 0", "add_group 0 0 1", "log", "data", "choose 0,0,0", "clone", "plan", "history", "__len__"):
            self.expect_error(line)

    def test_numbers_of_words(self):
        for line in ("gains", "limits", "limits 0", "limits 0 1", "limits 0 1 2 3", "group", "group 0", "group 0 1"):
            self.expect_error(line)
        for line in ("group 0 1 2 3", "remove", "remove 0 1", "at", "at 2 3", "judge", "judge 1 2 3", "judge 2,1,1 0"):
            self.expect_error(line)

    def test_blanks(self):
        for line in DONE:
            for changed in (f" {line}", f"{line} ", f"\t{line}", f"{line}\n", f"\n{line}", f"{line}\r", f"{line}\t"):
                self.expect_error(changed)
            for at in range(len(line)):
                if line[at] == " ":
                    for blanks in ("  ", "\t", "\n", "", "   ", "_", "\u00a0"):
                        self.expect_error(line[:at] + blanks + line[at + 1 :])

    def test_numbers(self):
        for number in ("-1", "-0", "+1", "00", "01", "1.0", "1e1", "1_0", "0x1", "a", "", "1,", "1*1", "None", "True"):
            self.expect_error(f"remove {number}")
            self.expect_error(f"limits {number} 0 1")
            self.expect_error(f"limits 0 {number} 1")
            self.expect_error(f"limits 0 0 {number}")
            self.expect_error(f"group 0 {number} 1")
            self.expect_error(f"group 0 0 {number}")
            self.expect_error(f"at {number}")
            self.expect_error(f"gains {number}")
            self.expect_error(f"gains {number} 1*1")

    def test_lists(self):
        for listed in ("", ",", "0,", ",0", "0,,1", "0;1", "0,-1", "0,01", "0,+1", "0,a", "0,1*1", "(0,1)", "-1", "-", "0,1,"):
            self.expect_error(f"group {listed} 0 1")
            self.expect_error(f"judge {listed}")

    def test_steps(self):
        for steps in ("1", "*", "1*", "*1", "1*1*1", "1**1", "-1*1", "01*1", "1*01", "1*-0", "1*--1", "1*+1", "1*-01", "1*00"):
            for line in (f"gains 0 {steps}", f"item {steps}", f"item 1*3 {steps}", f"gains 0 {steps} 1*1"):
                self.expect_error(line)
        for line in ("item 1,1*1", "item 1*1,1*0", "gains 0 1*3  1*1", "item 1*3  1*1", "item  1*1", "gains  0", "gains 0 1 1"):
            self.expect_error(line)

    def test_numbers_of_more_digits(self):
        for digits in (14, 15, 4300, 4301, 4900, 20000):
            for number in ("1" * digits, "1" + "0" * (digits - 1), "0" * digits):
                for line in (f"remove {number}", f"at {number}", f"judge {number},0,0", f"item {number}*1", f"item 1*{number}"):
                    with within(1):
                        self.expect_error(line)
                for line in (f"item 1*-{number}", f"gains {number}", f"limits 0 0 {number}", f"group 0,{number} 0 1"):
                    self.expect_error(line)

    def test_strange_digits(self):
        for character in "\u00b2\u0663\uff11\u2212\u0967":
            for line in (f"remove {character}", f"at 1{character}", f"item 1*{character}", f"judge {character},1"):
                self.expect_error(line)

    def test_lines_with_one_character_changed(self):
        wrong = right = 0
        for line in DONE:
            for at in range(len(line) + 1):
                changed = [line[:at] + line[at + 1 :], line[:at], line[at:]]
                changed.extend(line[:at] + character + line[at:] for character in CHARACTERS)
                changed.extend(line[:at] + character + line[at + 1 :] for character in CHARACTERS)
                for text in changed:
                    session = Session(S)
                    session.add_item(())
                    held = facts_of(session)
                    answer = Console(session).execute(text)
                    if LINES.fullmatch(text):
                        self.assertNotEqual(answer, SYNTAX_ERROR, text)
                        right += 1
                    else:
                        self.assertEqual(answer, SYNTAX_ERROR, text)
                        self.assertEqual(facts_of(session), held)
                        wrong += 1
        self.assertGreater(right, 200)
        self.assertGreater(wrong, 2000)


class HistoryTest(unittest.TestCase):
    def test_empty(self):
        self.assertEqual(Console(Session(S)).history(), ())

    def test_last_twenty(self):
        console = Console(Session(T))
        pairs = []
        for number in range(50):
            value = (f"limits 0 0 {number}", "undo", None, f"remove {number + 1}", True, "gain", ["undo"], "x")[number % 8]
            answer = console.execute(value)
            pairs.append((value if isinstance(value, str) else None, answer))
            self.assertEqual(console.history(), tuple(pairs[-20:]))
            self.assertIs(type(console.history()), tuple)
            for pair in console.history():
                self.assertIs(type(pair), tuple)

    def test_lines_are_kept_whole(self):
        console = Console(Session(T))
        for line in ("", " undo ", "x" * 5000, "item\n"):
            console.execute(line)
            self.assertEqual(console.history()[-1], (line, SYNTAX_ERROR))

    def test_each_console_has_its_own(self):
        session = Session(T)
        one, other = Console(session), Console(session)
        one.execute("item")
        self.assertEqual((one.history(), other.history()), ((("item", "done"),), ()))
        self.assertEqual(other.execute("undo"), "done")
        self.assertEqual(len(session), 0)

    def test_asking_for_it_changes_nothing(self):
        console = Console(Session(T))
        console.execute("gain")
        self.assertEqual(console.history(), console.history())


class CertificateTest(unittest.TestCase):
    def test_guarded_sessions_stay_fit(self):
        session = GuardedSession(S)
        console = Console(session)
        for line in ("limits 1 9 9", "limits 0 9 9", "gains 0", "gains 1", "gains 2", "group 2 9 9", "remove 1", "group 2 9 9"):
            self.assertIn(console.execute(line), ("done", "error Blocked"))
            self.assertEqual(certificate(session.data())[0], "totals")
            self.assertTrue(fits(session.data(), session.best()))
        self.assertEqual([answer for line, answer in console.history()].count("error Blocked"), 5)


if __name__ == "__main__":
    unittest.main()
