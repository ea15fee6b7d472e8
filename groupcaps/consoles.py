"""A text console for a session."""

from groupcaps.best import greatest_gain, plan_at
from groupcaps.errors import CapError
from groupcaps.evidence import best_prices, judge
from groupcaps.texts import format_plan, number_in, numbers_in, spaced, steps_in

HISTORY_SIZE = 20
SYNTAX_ERROR = "syntax error"


def do_gains(session, item, gains):
    """Replaces the gains of an item."""
    session.set_gains(item, gains)
    return "done"


def do_limits(session, number, least, most):
    """Replaces the limits of a group."""
    session.set_limits(number, least, most)
    return "done"


def do_group(session, members, least, most):
    """Adds a group."""
    session.add_group((members, least, most))
    return "done"


def do_remove(session, number):
    """Removes a group."""
    session.remove_group(number)
    return "done"


def do_item(session, gains):
    """Adds an item."""
    session.add_item(gains)
    return "done"


def do_undo(session):
    """Reverts the last operation."""
    session.undo()
    return "done"


def tell_totals(session):
    """The least and the greatest total."""
    return spaced(session.totals())


def tell_best(session):
    """The first best plan."""
    return format_plan(session.best())


def tell_gain(session):
    """The greatest gain."""
    return str(greatest_gain(session.data()))


def tell_prices(session):
    """Prices of the groups, or a sign that there are no groups."""
    prices = best_prices(session.data())
    return spaced(prices) if len(prices) > 0 else "-"


def tell_plan_at(session, total):
    """The first plan of those that are best for the total."""
    return format_plan(plan_at(session.data(), total))


def tell_judgement(session, plan):
    """Whether the plan is best, or else an exchange that gains."""
    word, shown = judge(session.data(), plan)
    return "best" if word == "prices" else spaced(shown)


# What stands behind the first word of each command.
FORMS = {
    "gains": ("number", "steps"),
    "limits": ("number", "number", "number"),
    "group": ("list", "number", "number"),
    "remove": ("number",),
    "item": ("steps",),
    "undo": (),
    "totals": (),
    "best": (),
    "gain": (),
    "prices": (),
    "at": ("number",),
    "judge": ("list",),
}

ACTIONS = {
    "gains": do_gains,
    "limits": do_limits,
    "group": do_group,
    "remove": do_remove,
    "item": do_item,
    "undo": do_undo,
    "totals": tell_totals,
    "best": tell_best,
    "gain": tell_gain,
    "prices": tell_prices,
    "at": tell_plan_at,
    "judge": tell_judgement,
}


def parts_of(form, words):
    """The words, with those that are steps as one part."""
    if "steps" not in form:
        return words
    # Steps come last and may be none.
    first = len(form) - 1
    return words[:first] + [words[first:]]


def argument_in(kind, part):
    """What the part says if it is of this kind, otherwise None."""
    if kind == "steps":
        return steps_in(part)
    if kind == "list":
        return numbers_in(part)
    return number_in(part)


def arguments_in(form, words):
    """What the words say if they have this form, otherwise None."""
    parts = parts_of(form, words)
    if len(parts) != len(form):
        return None
    arguments = [argument_in(kind, part) for kind, part in zip(form, parts)]
    return None if None in arguments else arguments


def answer_to(session, line):
    """Does what the line says, and tells the answer."""
    word, *rest = line.split(" ")
    if word not in FORMS:
        return SYNTAX_ERROR
    arguments = arguments_in(FORMS[word], rest)
    if arguments is None:
        return SYNTAX_ERROR
    action = ACTIONS[word]
    try:
        return action(session, *arguments)
    except CapError as why:
        return "error " + str(why)


class Console:
    """Answers lines about a session; pairs holds the last ones with their answers."""

    def __init__(self, session):
        self.session = session
        self.pairs = []

    def execute(self, line):
        """Does what the line says, and returns the answer."""
        heard = line if isinstance(line, str) else None
        answer = SYNTAX_ERROR if heard is None else answer_to(self.session, heard)
        self.pairs = [*self.pairs, (heard, answer)][-HISTORY_SIZE:]
        return answer

    def history(self):
        """The last lines with their answers."""
        return tuple(self.pairs)
