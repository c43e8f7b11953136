"""A console that answers lines of text with the data of a session."""

from widthmix.errors import WidthError
from widthmix.minimal import count_solutions
from widthmix.tables import levels_of
from widthmix.texts import format_setting, is_numeral

HISTORY_SIZE = 20


def do_set_width(session, numbers):
    outlet, inlet, width = numbers
    session.set_width(outlet, inlet, width)
    return "done"


def do_set_want(session, numbers):
    outlet, want = numbers
    session.set_want(outlet, want)
    return "done"


def do_add_outlet(session, numbers):
    session.add_outlet(numbers[0], numbers[1:])
    return "done"


def do_remove_outlet(session, numbers):
    session.remove_outlet(numbers[0])
    return "done"


def do_add_inlet(session, numbers):
    session.add_inlet(numbers)
    return "done"


def do_remove_inlet(session, numbers):
    session.remove_inlet(numbers[0])
    return "done"


def do_undo(session, numbers):
    session.undo()
    return "done"


def tell_greatest(session, numbers):
    return format_setting(session.greatest())


def tell_minimal(session, numbers):
    return "; ".join([format_setting(setting) for setting in session.minimal()])


def tell_evidence(session, numbers):
    word, proof = session.certificate()
    if word == "setting":
        return "none"
    outlet, reasons = proof
    return " ".join([str(outlet)] + ["-" if reason is None else str(reason) for reason in reasons])


def tell_tolerance(session, numbers):
    return str(session.gap)


def tell_levels(session, numbers):
    return format_setting(levels_of(session.table(), numbers))


def tell_count(session, numbers):
    return str(count_solutions(session.table(), session.wants()))


# For each first word what answers the line, how many numbers follow, and whether a list of numbers follows them.
COMMANDS = {
    "width": (do_set_width, 3, False),
    "want": (do_set_want, 2, False),
    "add_outlet": (do_add_outlet, 1, True),
    "remove_outlet": (do_remove_outlet, 1, False),
    "add_inlet": (do_add_inlet, 0, True),
    "remove_inlet": (do_remove_inlet, 1, False),
    "undo": (do_undo, 0, False),
    "greatest": (tell_greatest, 0, False),
    "minimal": (tell_minimal, 0, False),
    "evidence": (tell_evidence, 0, False),
    "tolerance": (tell_tolerance, 0, False),
    "levels": (tell_levels, 0, True),
    "count": (tell_count, 0, False),
}


class Console:
    """Answers lines of text, and keeps the last ones with their answers."""

    def __init__(self, session):
        self.session = session
        self.pairs = ()

    def execute(self, line):
        """Return the answer to a line."""
        if isinstance(line, str):
            answer = answer_to(self.session, line)
            self.remember(line, answer)
        else:
            answer = "syntax error"
            self.remember(None, answer)
        return answer

    def remember(self, line, answer):
        self.pairs = (self.pairs + ((line, answer),))[-HISTORY_SIZE:]

    def history(self):
        """Return the last pairs (line, answer)."""
        return self.pairs


def answer_to(session, line):
    word, *rest = line.split(" ")
    if not is_command(word, rest):
        return "syntax error"
    action, many, has_list = COMMANDS[word]
    try:
        return action(session, tuple([int(part) for part in rest]))
    except WidthError as e:
        return "error " + str(e)


def is_command(word, rest):
    if word not in COMMANDS or not all([is_numeral(part) for part in rest]):
        return False
    action, many, has_list = COMMANDS[word]
    return len(rest) >= many if has_list else len(rest) == many
