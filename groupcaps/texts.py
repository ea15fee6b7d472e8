"""Texts of systems and plans."""

from groupcaps.errors import BadText
from groupcaps.limits import LIMIT, MAX_GROUPS, MAX_ITEMS
from groupcaps.systems import is_between, is_gains, may_join

# No number in a text has more digits.
MAX_DIGITS = 13


def spaced(values):
    """The values joined by single spaces."""
    return " ".join([str(value) for value in values])


def item_line(gains):
    """The line of an item, without its line end."""
    return spaced(["item", *[f"{count}*{gain}" for count, gain in gains]])


def group_line(group):
    """The line of a group, without its line end."""
    members, least, most = group
    return spaced(["group", ",".join([str(item) for item in members]), least, most])


def format_system(system):
    """The text of the system."""
    items, groups = system
    lines = [item_line(gains) for gains in items] + [group_line(group) for group in groups]
    return "".join([line + "\n" for line in lines])


def format_plan(plan):
    """The text of the plan."""
    return spaced(plan)


def number_in(text):
    """The number that is written so without a sign, or None if there is none."""
    if not text.isascii() or not text.isdigit() or len(text) > MAX_DIGITS:
        return None
    if text.startswith("0") and len(text) > 1:
        return None
    return int(text)


def signed_in(text):
    """The number that is written so, perhaps with a minus, or None if there is none."""
    if not text.startswith("-"):
        return number_in(text)
    size = number_in(text[1:])
    # There is no -0.
    return None if size is None or size == 0 else -size


def numbers_in(text):
    """The numbers that are written so with commas between them, or None if there are none."""
    numbers = [number_in(word) for word in text.split(",")]
    return None if None in numbers else tuple(numbers)


def step_in(word):
    """The step that is written so, or None if there is none."""
    count, star, gain = word.partition("*")
    step = (number_in(count), signed_in(gain))
    return None if None in step else step


def steps_in(words):
    """The steps that are written so, or None if a word is no step."""
    steps = [step_in(word) for word in words]
    return None if None in steps else tuple(steps)


def group_in(words):
    """The group that is written so, or None if the words are not three or one is wrong."""
    if len(words) != 3:
        return None
    listed, least, most = words
    group = (numbers_in(listed), number_in(least), number_in(most))
    return None if None in group else group


def with_line(system, line):
    """The system with one more line, or None if no text has this line there."""
    items, groups = system
    word, *rest = line.split(" ")
    if word == "item" and len(groups) == 0 and len(items) < MAX_ITEMS:
        gains = steps_in(rest)
        if is_gains(gains):
            return ((*items, gains), groups)
    if word == "group" and len(groups) < MAX_GROUPS:
        group = group_in(rest)
        if may_join(group, groups, len(items)):
            return (items, (*groups, group))
    return None


def parse_system(value):
    """The system with this text."""
    if not isinstance(value, str):
        raise BadText(None)
    lines = value.split("\n")
    system = ((), ())
    for index, line in enumerate(lines[:-1]):
        system = with_line(system, line)
        if system is None:
            raise BadText(index)
    # What stands behind the last line end has none itself; without any line there is no item.
    if lines[-1] != "" or len(lines) == 1:
        raise BadText(len(lines) - 1)
    return system


def parse_plan(value):
    """The plan with this text."""
    if not isinstance(value, str):
        raise BadText(None)
    plan = tuple([number_in(word) for word in value.split(" ")])
    if len(plan) > MAX_ITEMS or not all([is_between(units, 0, LIMIT) for units in plan]):
        raise BadText(0)
    return plan
