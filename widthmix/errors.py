"""The exceptions of the package.

The message of each is the name of its class, which the log of a session and the answers of a console tell.
"""


class WidthError(ValueError):
    """Every exception of the package is one of these."""


class NoSetting(WidthError):
    """A value is not a setting of the table, or not the wanted one."""

    def __str__(self):
        return "NoSetting"


class NoLevel(WidthError):
    """A value is not a level."""

    def __init__(self, level):
        self.level = level

    def __str__(self):
        return "NoLevel"


class NoOutlet(WidthError):
    """A value is not the number of an outlet."""

    def __init__(self, outlet):
        self.outlet = outlet

    def __str__(self):
        return "NoOutlet"


class NoInlet(WidthError):
    """A value is not the number of an inlet."""

    def __init__(self, inlet):
        self.inlet = inlet

    def __str__(self):
        return "NoInlet"


class LastOutlet(WidthError):
    """The only outlet cannot be removed."""

    def __str__(self):
        return "LastOutlet"


class LastInlet(WidthError):
    """The only inlet cannot be removed."""

    def __str__(self):
        return "LastInlet"


class NoMatch(WidthError):
    """The sizes of the tables do not match."""

    def __str__(self):
        return "NoMatch"


class TooMany(WidthError):
    """A limit would be exceeded."""

    def __init__(self, limit):
        self.limit = limit

    def __str__(self):
        return "TooMany"


class NoWants(WidthError):
    """A value is not wants for the table."""

    def __str__(self):
        return "NoWants"


class NoSolution(WidthError):
    """There is no solution, as the evidence shows."""

    def __init__(self, evidence):
        self.evidence = evidence

    def __str__(self):
        return "NoSolution"


class NoIndex(WidthError):
    """A value is not the index of a solution."""

    def __init__(self, index):
        self.index = index

    def __str__(self):
        return "NoIndex"


class NoPrices(WidthError):
    """A value is not prices for the table."""

    def __str__(self):
        return "NoPrices"


class NotSquare(WidthError):
    """The table does not have as many outlets as inlets."""

    def __str__(self):
        return "NotSquare"


class NoExponent(WidthError):
    """A value is not an exponent."""

    def __init__(self, exponent):
        self.exponent = exponent

    def __str__(self):
        return "NoExponent"


class NoWidths(WidthError):
    """A value is not the widths of a new outlet or inlet."""

    def __str__(self):
        return "NoWidths"


class BadTable(WidthError):
    """A value is not a table."""

    def __str__(self):
        return "BadTable"


class NothingToUndo(WidthError):
    """No operation is in effect."""

    def __str__(self):
        return "NothingToUndo"


class NoMoment(WidthError):
    """A value is not a moment of the session."""

    def __init__(self, at):
        self.at = at

    def __str__(self):
        return "NoMoment"


class NoOperations(WidthError):
    """A value is not a batch of operations."""

    def __str__(self):
        return "NoOperations"


class Failed(WidthError):
    """The operation of a batch at that index failed."""

    def __init__(self, index):
        self.index = index

    def __str__(self):
        return "Failed"


class Blocked(WidthError):
    """A guarded session would have no solution, as the evidence shows."""

    def __init__(self, evidence):
        self.evidence = evidence

    def __str__(self):
        return "Blocked"


class BadText(WidthError):
    """A text is wrong at that line, or, with None, it is not a string."""

    def __init__(self, line):
        self.line = line

    def __str__(self):
        return "BadText"


class NoNote(WidthError):
    """A value is not a note."""

    def __init__(self, note):
        self.note = note

    def __str__(self):
        return "NoNote"
