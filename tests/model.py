"""A slow session that follows the document's words: it keeps a list of all states and a list of all log entries."""

from tests.helper import ODD_VALUES, excludes, random_levels, slow_levels
from widthmix.errors import WidthError
from widthmix.limits import TOP

ARGUMENTS = {
    "add_inlet": 1, "add_outlet": 2, "remove_inlet": 1, "remove_outlet": 1, "set_want": 2, "set_width": 3,
}


class Wrong(Exception):
    """The exception that the document names, with its arguments."""

    def __init__(self, name, *arguments):
        self.outcome = (name, arguments)


def is_number(value, many):
    return type(value) is int and 0 <= value < many


def is_level_tuple(value, many):
    return type(value) is tuple and len(value) == many and all(is_number(part, TOP + 1) for part in value)


def demand(holds, name, *arguments):
    if not holds:
        raise Wrong(name, *arguments)


def slow_set_width(rows, wants, outlet, inlet, width):
    demand(is_number(outlet, len(rows)), "NoOutlet", outlet)
    demand(is_number(inlet, len(rows[0])), "NoInlet", inlet)
    demand(is_number(width, TOP + 1), "NoLevel", width)
    rows[outlet][inlet] = width


def slow_set_want(rows, wants, outlet, want):
    demand(is_number(outlet, len(rows)), "NoOutlet", outlet)
    demand(is_number(want, TOP + 1), "NoLevel", want)
    wants[outlet] = want


def slow_add_outlet(rows, wants, want, widths):
    demand(is_number(want, TOP + 1), "NoLevel", want)
    demand(is_level_tuple(widths, len(rows[0])), "NoWidths")
    demand(len(rows) < 6, "TooMany", 6)
    rows.append(list(widths))
    wants.append(want)


def slow_remove_outlet(rows, wants, outlet):
    demand(is_number(outlet, len(rows)), "NoOutlet", outlet)
    demand(len(rows) > 1, "LastOutlet")
    del rows[outlet], wants[outlet]


def slow_add_inlet(rows, wants, widths):
    demand(is_level_tuple(widths, len(rows)), "NoWidths")
    demand(len(rows[0]) < 6, "TooMany", 6)
    for row, width in zip(rows, widths):
        row.append(width)


def slow_remove_inlet(rows, wants, inlet):
    demand(is_number(inlet, len(rows[0])), "NoInlet", inlet)
    demand(len(rows[0]) > 1, "LastInlet")
    for row in rows:
        del row[inlet]


CHANGES = {
    "add_inlet": slow_add_inlet, "add_outlet": slow_add_outlet, "remove_inlet": slow_remove_inlet,
    "remove_outlet": slow_remove_outlet, "set_want": slow_set_want, "set_width": slow_set_width,
}


def slow_change(state, operation):
    """The table and the wants after an operation."""
    rows, wants = [list(row) for row in state[0]], list(state[1])
    name, *arguments = operation
    CHANGES[name](rows, wants, *arguments)
    return tuple(tuple(row) for row in rows), tuple(wants)


def slow_greatest(table, wants):
    """The greatest solution, or None: the upper setting, if it gives the wants."""
    upper = tuple(min([want for row, want in zip(table, wants) if row[inlet] > want], default=TOP)
                  for inlet in range(len(table[0])))
    return upper if slow_levels(table, upper) == wants else None


def is_slow_evidence(table, wants, value):
    outlet, reasons = value
    return len(reasons) == len(table[0]) and all(
        excludes(table, wants, outlet, inlet, reason, 0) for inlet, reason in enumerate(reasons))


class SlowSession:
    """What a session must do, without its queries."""

    def __init__(self, table, wants, limit=60, guarded=False):
        self.states = [(table, wants)]
        self.entries = []
        self.limit = limit
        self.guarded = guarded

    def state_after(self, operation):
        demand(len(self.states) - 1 < self.limit, "TooMany", self.limit)
        state = slow_change(self.states[-1], operation)
        # The test of a guarded session checks the evidence against this state.
        demand(not self.guarded or slow_greatest(*state) is not None, "Blocked", state)
        return state

    def perform(self, operation):
        try:
            state = self.state_after(operation)
        except Wrong as wrong:
            self.entries.append((operation[0], wrong.outcome[0]))
            raise
        self.states.append(state)
        self.entries.append((operation[0], "done"))

    def undo(self):
        if len(self.states) == 1:
            self.entries.append(("undo", "NothingToUndo"))
            raise Wrong("NothingToUndo")
        self.states.pop()
        self.entries.append(("undo", "done"))

    def apply_all(self, operations):
        demand(is_batch(operations), "NoOperations")
        before = list(self.states)
        names = []
        for index, operation in enumerate(operations):
            try:
                self.states.append(self.state_after(operation))
            except Wrong as wrong:
                self.states = before
                self.entries += [(name, "reverted") for name in names] + [(operation[0], wrong.outcome[0])]
                raise Wrong("Failed", index) from None
            names.append(operation[0])
        self.entries += [(name, "done") for name in names]

    def log(self):
        return tuple(self.entries[-100:])


def is_batch(value):
    return type(value) in (list, tuple) and len(value) <= 20 and all(
        type(part) is tuple and len(part) > 0 and type(part[0]) is str and part[0] in ARGUMENTS
        and len(part) == 1 + ARGUMENTS[part[0]] for part in value)


def whole_but_log(session):
    """All that a session tells but its log."""
    moments = [(session.table(at=at), session.wants(at=at)) for at in range(len(session) + 1)]
    return moments, len(session), str(session), session.note, session.table(), session.wants()


def whole(session):
    """All that a session tells."""
    return *whole_but_log(session), session.log()


def outcome_of(function, *given, **more):
    """What a call of the package, or of the slow session, does: ("done", result), or the exception's name and arguments."""
    try:
        return "done", function(*given, **more)
    except WidthError as error:
        return type(error).__name__, tuple(vars(error).values())
    except Wrong as wrong:
        return wrong.outcome


def drawn_table(source, outlets, inlets, greatest):
    return tuple(random_levels(source, inlets, greatest) for _ in range(outlets))


def drawn_state(source, greatest=9, solvable=False):
    outlets, inlets = source.randint(1, 6), source.randint(1, 6)
    table = drawn_table(source, outlets, inlets, greatest)
    if solvable or source.randint(0, 1):
        return table, slow_levels(table, random_levels(source, inlets, greatest))
    return table, random_levels(source, outlets, greatest)


def drawn_operation(source, state, greatest=9):
    """An operation on a state, of which about one in five has an odd argument."""
    outlets, inlets = len(state[0]), len(state[0][0])
    name = source.choice(sorted(ARGUMENTS))
    arguments = {
        "add_inlet": [random_levels(source, outlets, greatest)],
        "add_outlet": [source.randint(0, greatest), random_levels(source, inlets, greatest)],
        "remove_inlet": [source.randrange(inlets)],
        "remove_outlet": [source.randrange(outlets)],
        "set_want": [source.randrange(outlets), source.randint(0, greatest)],
        "set_width": [source.randrange(outlets), source.randrange(inlets), source.randint(0, greatest)],
    }[name]
    if source.randrange(5) == 0:
        arguments[source.randrange(len(arguments))] = source.choice((*ODD_VALUES, outlets, inlets, (1,) * inlets))
    return (name, *arguments)


def drawn_batch(source, state, greatest=9):
    """Operations that are drawn one after the other, each for the state that the earlier ones make."""
    operations = []
    for _ in range(source.choice((0, 1, 2, 3, 5, 20))):
        operations.append(drawn_operation(source, state, greatest))
        try:
            state = slow_change(state, operations[-1])
        except Wrong:
            pass
    return operations if source.randint(0, 1) else tuple(operations)
