"""Sessions: a table with wants that change by operations, which can be undone."""

from widthmix.changes import all_names, are_operations, changed
from widthmix.checks import is_number_below
from widthmix.errors import BadTable, Blocked, Failed, NoMoment, NoNote, NoOperations, NothingToUndo, NoWants, TooMany
from widthmix.errors import WidthError
from widthmix.limits import LOG_SIZE, MAX_OPERATIONS
from widthmix.minimal import minimal_solutions
from widthmix.solutions import certificate, find_evidence, greatest_solution
from widthmix.tables import are_wants, is_table
from widthmix.texts import parse_data
from widthmix.tolerances import least_tolerance, tolerance_certificate

NOTE_SIZE = 20


class Session:
    """A table with wants, and the operations on them that are in effect."""

    # A class value is written out; this one is MAX_OPERATIONS.
    LIMIT = 60
    # Text and equality of a session tell whether it is guarded.
    PREFIX = ""

    def __init__(self, table, wants, *, limit=MAX_OPERATIONS):
        if not is_table(table):
            raise BadTable()
        if not are_wants(table, wants):
            raise NoWants()
        # The pair (table, wants) at the beginning and after each operation in effect.
        self.states = ((table, wants),)
        self.limit = limit
        self.entries = ()
        self.text = ""

    def __len__(self):
        return len(self.states[1:])

    def __str__(self):
        return f"{self.PREFIX}{summary(self.states[-1])}"

    def __eq__(self, other):
        return isinstance(other, Session) and self.PREFIX == other.PREFIX and self.states[-1] == other.states[-1]

    def set_width(self, outlet, inlet, width):
        """Replace a width."""
        self.perform(("set_width", outlet, inlet, width))

    def set_want(self, outlet, want):
        """Replace a wanted level."""
        self.perform(("set_want", outlet, want))

    def add_outlet(self, want, widths):
        """Add an outlet with the next number."""
        self.perform(("add_outlet", want, widths))

    def remove_outlet(self, outlet):
        """Remove an outlet and its want."""
        self.perform(("remove_outlet", outlet))

    def add_inlet(self, widths):
        """Add an inlet with the next number."""
        self.perform(("add_inlet", widths))

    def remove_inlet(self, inlet):
        """Remove an inlet."""
        self.perform(("remove_inlet", inlet))

    def perform(self, operation):
        """Perform an operation, a tuple of its name and its arguments, and record it."""
        try:
            state = self.state_after(operation)
        except WidthError as e:
            self.record(operation[0], str(e))
            raise
        self.states = self.states + (state,)
        self.record(operation[0], "done")

    def state_after(self, operation):
        if len(self) >= self.limit:
            raise TooMany(self.limit)
        table, wants = self.states[-1]
        new_table, new_wants = changed(table, wants, operation)
        self.check_guard(new_table, new_wants)
        return (new_table, new_wants)

    def check_guard(self, table, wants):
        """Accept everything; a guarded session does not."""

    def record(self, word, outcome):
        self.entries = (self.entries + ((word, outcome),))[-LOG_SIZE:]

    def undo(self):
        """Revert the last operation that is in effect."""
        if len(self) == 0:
            self.record("undo", "NothingToUndo")
            raise NothingToUndo()
        self.states = self.states[:-1]
        self.record("undo", "done")

    def apply_all(self, operations):
        """Perform all operations of a batch in order, or none."""
        if not are_operations(operations):
            raise NoOperations()
        before = self.states
        for index, operation in enumerate(operations):
            try:
                state = self.state_after(operation)
            except WidthError as e:
                self.states = before
                self.record_all(operations[:index], "reverted")
                self.record(operation[0], str(e))
                raise Failed(index) from None
            self.states = self.states + (state,)
        self.record_all(operations, "done")

    def record_all(self, operations, outcome):
        for operation in operations:
            self.record(operation[0], outcome)

    def log(self):
        """Return the last entries (word, outcome) of the log, the latest one last."""
        return self.entries

    def table(self, *, at=None):
        """Return the table."""
        return self.state_at(at)[0]

    def wants(self, *, at=None):
        """Return the wants."""
        return self.state_at(at)[1]

    def certificate(self, *, at=None):
        """Return the greatest solution, or evidence that there is none, with a word that says which."""
        table, wants = self.state_at(at)
        return certificate(table, wants)

    def tolerance(self, *, at=None):
        """Return the least tolerance, the greatest setting within it, and evidence against the next smaller one."""
        table, wants = self.state_at(at)
        return tolerance_certificate(table, wants)

    def greatest(self, *, at=None):
        """Return the greatest solution."""
        table, wants = self.state_at(at)
        return greatest_solution(table, wants)

    def minimal(self, *, at=None):
        """Return all minimal solutions."""
        table, wants = self.state_at(at)
        return minimal_solutions(table, wants)

    def state_at(self, at):
        """Return the table and the wants after that many operations, or, with None, the current ones."""
        if at is None:
            return self.states[-1]
        if not is_number_below(at, len(self.states)):
            raise NoMoment(at)
        return self.states[at]

    def clone(self):
        """Return an independent session that is the same in all respects."""
        table, wants = self.states[-1]
        twin = self.begun(table, wants, self.limit)
        twin.states = self.states
        twin.entries = self.entries
        twin.text = self.text
        return twin

    def preview(self, operations):
        """Return the certificate of the state after a batch, without performing it."""
        twin = self.clone()
        twin.apply_all(operations)
        return twin.certificate()

    @classmethod
    def begun(cls, table, wants, limit):
        return cls(table, wants, limit=limit)

    @classmethod
    def from_text(cls, value):
        """Return a session with the table and the wants of a text."""
        table, wants = parse_data(value)
        return cls(table, wants)

    @staticmethod
    def operation_names():
        """Return the ascending tuple of the names of the six operations."""
        return all_names()

    @property
    def gap(self):
        """The least tolerance of the current state."""
        table, wants = self.states[-1]
        return least_tolerance(table, wants)

    @property
    def note(self):
        """A string of at most 20 characters, on which nothing else depends."""
        return self.text

    @note.setter
    def note(self, value):
        if not isinstance(value, str) or len(value) > NOTE_SIZE:
            raise NoNote(value)
        self.text = value

    def annotate(self, value):
        """Assign the note."""
        self.note = value


class GuardedSession(Session):
    """A session that always has a solution."""

    PREFIX = "guarded, "

    def __init__(self, table, wants, *, limit=MAX_OPERATIONS):
        super().__init__(table, wants, limit=limit)
        self.check_guard(table, wants)

    def check_guard(self, table, wants):
        """Refuse a table and wants that have no solution."""
        evidence = find_evidence(table, wants)
        if evidence is not None:
            raise Blocked(evidence)


def summary(state):
    table, wants = state
    return f"{len(table)} outlets, {len(table[0])} inlets, tolerance {least_tolerance(table, wants)}"
