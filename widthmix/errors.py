"""The exceptions of the package."""


class WidthError(ValueError):
    """Every exception of the package is one of these."""


class NoSetting(WidthError):
    """A value is not a setting of the table, or not the wanted one."""


class NoLevel(WidthError):
    """A value is not a level."""

    def __init__(self, level):
        self.level = level


class NoOutlet(WidthError):
    """A value is not the number of an outlet."""

    def __init__(self, outlet):
        self.outlet = outlet


class NoInlet(WidthError):
    """A value is not the number of an inlet."""

    def __init__(self, inlet):
        self.inlet = inlet


class LastOutlet(WidthError):
    """The only outlet cannot be removed."""


class LastInlet(WidthError):
    """The only inlet cannot be removed."""


class NoMatch(WidthError):
    """The sizes of the tables do not match."""


class TooMany(WidthError):
    """A limit would be exceeded."""

    def __init__(self, limit):
        self.limit = limit


class NoWants(WidthError):
    """A value is not wants for the table."""


class NoSolution(WidthError):
    """There is no solution, as the evidence shows."""

    def __init__(self, evidence):
        self.evidence = evidence


class NoIndex(WidthError):
    """A value is not the index of a solution."""

    def __init__(self, index):
        self.index = index


class NoPrices(WidthError):
    """A value is not prices for the table."""


class NotSquare(WidthError):
    """The table does not have as many outlets as inlets."""


class NoExponent(WidthError):
    """A value is not an exponent."""

    def __init__(self, exponent):
        self.exponent = exponent


class NoWidths(WidthError):
    """A value is not the widths of a new outlet or inlet."""


class BadTable(WidthError):
    """A value is not a table."""


class NothingToUndo(WidthError):
    """No operation is in effect."""


class NoMoment(WidthError):
    """A value is not a moment of the session."""

    def __init__(self, at):
        self.at = at


class NoOperations(WidthError):
    """A value is not a batch of operations."""


class Failed(WidthError):
    """The operation of a batch at that index failed."""

    def __init__(self, index):
        self.index = index


class Blocked(WidthError):
    """A guarded session would have no solution, as the evidence shows."""

    def __init__(self, evidence):
        self.evidence = evidence


class BadText(WidthError):
    """A text is wrong at that line, or, with None, it is not a string."""

    def __init__(self, line):
        self.line = line


class NoNote(WidthError):
    """A value is not a note."""

    def __init__(self, note):
        self.note = note
