"""[67] to [71]: texts of systems and plans."""

import copy
import re
import unittest

from groupcaps.errors import BadText
from groupcaps.systems import is_system
from groupcaps.texts import format_plan, format_system, parse_plan, parse_system
from samples import (
    CHOSEN,
    HUGE,
    LIMIT,
    MAX_GAIN,
    N,
    ODD_VALUES,
    S,
    T,
    expect_error,
    large_systems,
    small_systems,
    within,
)

NUMBER = r"(?:0|[1-9][0-9]{0,12})"
GAIN = r"(?:0|-?[1-9][0-9]{0,12})"
ITEM = re.compile(rf"item((?: {NUMBER}\*{GAIN})*)\n")
GROUP = re.compile(rf"group ({NUMBER}(?:,{NUMBER})*) ({NUMBER}) ({NUMBER})\n")

# Characters that may be right in some places and are wrong in most.
CHARACTERS = "\n *,-+019 .itemgroupGx\t_"

# Characters that Python takes for digits, blanks or ends of lines in some places.
STRANGE = "\r\v\f\x1c\x85\u2028\u00a0\u00b2\u0663\u2212\uff11"


def read_lines(lines):
    """What the lines say, each for itself and in any order, or None."""
    items, groups = [], []
    for line in lines:
        item, group = ITEM.fullmatch(line), GROUP.fullmatch(line)
        if item and not groups:
            steps = [step.split("*") for step in item[1].split()]
            items.append(tuple((int(count), int(gain)) for count, gain in steps))
        elif group:
            groups.append((tuple(map(int, group[1].split(","))), int(group[2]), int(group[3])))
        else:
            return None
    return (tuple(items), tuple(groups))


def wrong_line(text):
    """[69], by its words: the first line with which no text of a system begins, or None."""
    lines = re.findall(r"[^\n]*\n|[^\n]+", text)
    for index in range(len(lines)):
        system = read_lines(lines[: index + 1])
        if system is None or not is_system(system):
            return index
    return None if lines else 0


def changed_texts(text):
    """The text with one character changed, left out or put in, or one line left out, doubled or moved."""
    for at in range(len(text) + 1):
        for character in CHARACTERS:
            yield text[:at] + character + text[at:]
            yield text[:at] + character + text[at + 1 :]
        yield text[:at] + text[at + 1 :]
        yield text[:at]
        yield text[at:]
    lines = text.splitlines(keepends=True)
    for at, line in enumerate(lines):
        yield "".join(lines[:at] + lines[at + 1 :])
        for other in range(len(lines) + 1):
            yield "".join(lines[:other] + [line] + lines[other:])
            rest = lines[:at] + lines[at + 1 :]
            yield "".join(rest[:other] + [line] + rest[other:])


class FormatSystemTest(unittest.TestCase):
    def test_example(self):
        self.assertEqual(format_system(T), "item 2*3\nitem 2*3\ngroup 0,1 0 2\n")

    def test_chosen(self):
        self.assertEqual(
            format_system(S), "item 2*5 1*1\nitem 3*3\nitem 1*4 2*-1\ngroup 0,1 0 3\ngroup 0,1,2 2 4\n"
        )
        self.assertEqual(format_system((((),), ())), "item\n")
        self.assertEqual(format_system((((), ((1, 0),)), ())), "item\nitem 1*0\n")
        self.assertEqual(
            format_system(((((LIMIT - 1, MAX_GAIN), (1, -MAX_GAIN)),), (((0,), LIMIT, LIMIT),))),
            "item 999999999999*1000000 1*-1000000\ngroup 0 1000000000000 1000000000000\n",
        )

    def test_by_the_words(self):
        for system in (*CHOSEN, HUGE, *small_systems(100), *large_systems()):
            held = copy.deepcopy(system)
            text = format_system(system)
            self.assertTrue(text.endswith("\n"))
            self.assertEqual(read_lines(text.splitlines(keepends=True)), system)
            self.assertEqual(system, held)


class ParseSystemTest(unittest.TestCase):
    def expect_bad(self, value, line):
        with self.subTest(value=str(value)[:80]):
            expect_error(self, BadText, {"line": line}, parse_system, value)

    def test_examples(self):
        self.assertEqual(parse_system("item 1*-2\nitem\n"), ((((1, -2),), ()), ()))
        self.expect_bad("item 1*2\ngroup 1 0 1\n", 1)
        self.expect_bad("item 1*2\nitem 01*2\n", 1)
        self.expect_bad("", 0)

    def test_there_and_back(self):
        for system in (*CHOSEN, HUGE, *small_systems(200), *large_systems()):
            self.assertEqual(parse_system(format_system(system)), system)

    def test_no_strings(self):
        for value in ODD_VALUES:
            self.expect_bad(value, 0 if isinstance(value, str) else None)
        for value in (b"item\n", ["item\n"], ("item\n",), {"item\n": 1}, S):
            self.expect_bad(value, None)

    def check(self, text):
        line = wrong_line(text)
        if line is None:
            system = parse_system(text)
            self.assertTrue(is_system(system))
            self.assertEqual(format_system(system), text)
        else:
            with self.assertRaises(BadText, msg=text) as caught:
                parse_system(text)
            self.assertEqual(caught.exception.line, line, text)
        return line

    def test_changed_texts(self):
        found = set()
        for system in (S, T, N, (((),), ()), ((((10, 9), (1, -10)), ()), (((1,), 0, 10), ((0, 1), 9, 11)))):
            text = format_system(system)
            self.assertIsNone(self.check(text))
            for changed in changed_texts(text):
                found.add(self.check(changed))
        self.assertTrue({None, 0, 1, 2, 3, 4, 5} <= found)

    def test_changed_texts_of_large_systems(self):
        text = format_system(HUGE)
        for at in range(len(text)):
            for character in "\n 0*,-":
                self.check(text[:at] + character + text[at + 1 :])

    def test_first_wrong_line_counts(self):
        self.expect_bad("item\nitem 0*1\nitem 1*\ngroup 9 0 1\n", 1)
        self.expect_bad("item\ngroup 0 1 0\nitem", 1)
        self.expect_bad("item\nitem\nx", 2)

    def test_text_behind_the_last_line_end(self):
        self.expect_bad("item", 0)
        self.expect_bad("item 1*2\nitem 1*2", 1)
        self.expect_bad("item 1*2\ngroup 0 0 1", 1)
        self.expect_bad("item 1*2\n ", 1)
        self.expect_bad("\n", 0)
        self.expect_bad("item\n\n", 1)
        self.expect_bad("\nitem\n", 0)

    def test_order_of_the_lines(self):
        self.expect_bad("group 0 0 1\n", 0)
        self.expect_bad("group 0 0 1\nitem\n", 0)
        self.expect_bad("item\ngroup 0 0 1\nitem\n", 2)

    def test_groups_of_items_that_come_too_late(self):
        self.expect_bad("item\ngroup 0,1 0 1\nitem\n", 1)

    def test_number_of_lines(self):
        six = "item\n" * 6
        self.assertEqual(parse_system(six), (((),) * 6, ()))
        self.expect_bad(six + "item\n", 6)
        self.expect_bad(six + "item x\n", 6)
        self.expect_bad("item\n" * 900, 6)
        eight = "".join(f"group {members} 0 0\n" for members in ("0", "1", "2", "3", "4", "5", "0,1", "2,3"))
        self.assertEqual(len(parse_system(six + eight)[1]), 8)
        self.expect_bad(six + eight + "group 0,1,2,3 0 0\n", 14)
        self.expect_bad(six + eight + "\n", 14)

    def test_steps(self):
        self.assertEqual(len(parse_system("item 1*5 1*4 1*3 1*2 1*1\n")[0][0]), 5)
        self.expect_bad("item 1*5 1*4 1*3 1*2 1*1 1*0\n", 0)
        for steps in ("1*1 1*1", "1*1 1*2", "0*1", "-1*1", "1000000000001*1", "1000000000000*1 1*0"):
            self.expect_bad(f"item\nitem {steps}\n", 1)
        for steps in ("1", "*", "1*", "*1", "1*2*3", "1**2", "1*-", "1*--1", "1*-0", "1*00", "1*-01", "1*+1", "1 * 2"):
            self.expect_bad(f"item\nitem {steps}\n", 1)
        for steps in ("1*2 ", " 1*2", "1*3  1*2", "", "1*3,1*2", "1*3\t1*2", "1_0*1", "1.0*1", "1e1*1", "0x1*1"):
            self.expect_bad(f"item\nitem {steps}\n", 1)
        self.assertEqual(parse_system("item 1*1000000 1*-1000000\n")[0], (((1, MAX_GAIN), (1, -MAX_GAIN)),))
        self.expect_bad("item 1*1000001\n", 0)
        self.expect_bad("item 1*-1000001\n", 0)

    def test_groups(self):
        begin = "item\nitem\nitem\n"
        for group in ("0 0 1", "0,1,2 0 0", "1,2 1000000000000 1000000000000", "2 7 8"):
            self.assertEqual(format_system(parse_system(f"{begin}group {group}\n")), f"{begin}group {group}\n")
        for group in ("1,0 0 1", "0,0 0 1", "3 0 1", "0,3 0 1", "0 2 1", "0 0 1000000000001", "0 -1 1", "-1 0 1"):
            self.expect_bad(f"{begin}group {group}\n", 3)
        for group in ("0 0", "0 0 1 2", " 0 1", "0,, 0 1", ",0 0 1", "0, 0 1", "0 ,1 0 1", "0 0  1", "00 0 1", "0 0 01"):
            self.expect_bad(f"{begin}group {group}\n", 3)
        for group in ("0 0 1 ", " 0 0 1", "", "0;1 0 1", "0 -0 1", "0 0 1*1", "0 +0 1"):
            self.expect_bad(f"{begin}group {group}\n", 3)

    def test_groups_beside_each_other(self):
        begin = "item\nitem\nitem\ngroup 0,1 0 1\n"
        for members in ("0", "1", "2", "0,1,2"):
            self.assertEqual(len(parse_system(f"{begin}group {members} 0 1\n")[1]), 2)
        for members in ("0,1", "1,2", "0,2"):
            self.expect_bad(f"{begin}group {members} 0 1\n", 4)

    def test_other_words(self):
        for line in ("Item", "items", "ite", " item", "item:", "group", "Group 0 0 1", "groups 0 0 1", "#", "0", "undo"):
            self.expect_bad(f"item\n{line}\n", 1)

    def test_long_numbers(self):
        begin = "item 1*1\n"
        for digits in (13, 14, 20, 4000, 4300, 4301, 5000, 20000):
            for number in ("9" * digits, "1" + "0" * digits):
                lines = (f"item {number}*1", f"item 1*{number}", f"item 1*-{number}")
                groups = (f"group {number} 0 1", f"group 0,{number} 0 1", f"group 0 {number} 1", f"group 0 0 {number}")
                for line in lines + groups:
                    with within(1):
                        self.expect_bad(f"{begin}{line}\n", 1)
                        self.expect_bad(f"{begin}{line}", 1)
        self.assertEqual(parse_system("item 1000000000000*0\n"), ((((LIMIT, 0),),), ()))

    def test_other_characters(self):
        text = format_system(S)
        for character in STRANGE:
            for at in range(len(text) + 1):
                for changed in (text[:at] + character + text[at:], text[:at] + character + text[at + 1 :]):
                    line = text.count("\n", 0, at)
                    with self.assertRaises(BadText) as caught:
                        parse_system(changed)
                    self.assertEqual(caught.exception.line, line)

    def test_line_ends_of_other_systems(self):
        self.expect_bad("item 1*2\r\n", 0)
        self.expect_bad("item\r\nitem\r\n", 0)
        self.expect_bad("item\ritem\r", 0)


class PlanTextTest(unittest.TestCase):
    def expect_bad(self, value, line):
        with self.subTest(value=str(value)[:80]):
            expect_error(self, BadText, {"line": line}, parse_plan, value)

    def test_examples(self):
        self.assertEqual(format_plan((2, 1, 1)), "2 1 1")
        self.assertEqual(parse_plan("2 1 1"), (2, 1, 1))
        self.expect_bad("2  1", 0)

    def test_there_and_back(self):
        for plan in ((0,), (LIMIT,), (0, 10, 100), (1, 2, 3, 4, 5, 6), (LIMIT,) * 6, (0, LIMIT - 1)):
            text = format_plan(plan)
            self.assertEqual(text, " ".join(str(units) for units in plan))
            self.assertEqual(parse_plan(text), plan)
            self.assertIs(type(parse_plan(text)), tuple)

    def test_no_strings(self):
        for value in ODD_VALUES:
            if value != "0":
                self.expect_bad(value, 0 if isinstance(value, str) else None)
        self.assertEqual(parse_plan("0"), (0,))
        for value in (b"2 1 1", (2, 1, 1), ["2 1 1"], 2):
            self.expect_bad(value, None)

    def test_bad_texts(self):
        for text in ("", " ", "2 ", " 2", "2 1\n", "2\n1", "\n", "2,1", "2\t1", "a", "2 b", "-1", "-0", "+1", "1.0", "1_0"):
            self.expect_bad(text, 0)
        for text in ("00", "01", "1 02", "1 2 3 4 5 6 7", "0 " * 6, "1000000000001", "9999999999999", "1 2 10000000000000"):
            self.expect_bad(text, 0)
        for digits in (14, 4300, 4301, 5000, 20000):
            with within(1):
                self.expect_bad("1" * digits, 0)
                self.expect_bad("1 " + "0" * digits, 0)
        for character in STRANGE:
            self.expect_bad(f"2{character}1", 0)
            self.expect_bad(character, 0)
            self.expect_bad(f"1{character}", 0)

    def test_changed_texts(self):
        kept = 0
        for plan in ((2, 1, 1), (10, 0, LIMIT, 9), (0, 1, 2, 3, 4, 5)):
            for text in changed_texts(format_plan(plan)):
                words = text.split(" ")
                right = len(words) <= 6 and all(re.fullmatch(NUMBER, word) and int(word) <= LIMIT for word in words)
                if right:
                    self.assertEqual(parse_plan(text), tuple(int(word) for word in words))
                    kept += 1
                else:
                    with self.assertRaises(BadText, msg=text) as caught:
                        parse_plan(text)
                    self.assertEqual(caught.exception.line, 0)
        self.assertGreater(kept, 50)


if __name__ == "__main__":
    unittest.main()
