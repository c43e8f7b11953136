"""The six operations of sessions: functions that return the table and the wants that result."""

from widthmix.checks import is_level, is_number_below
from widthmix.errors import NoInlet, NoLevel, NoOutlet, NoWidths
from widthmix.limits import MAX_BATCH
from widthmix.tables import are_wants, is_setting, join_inlets, join_outlets, remove_inlet, remove_outlet, replaced
from widthmix.tables import turned, without


def with_width(table, wants, outlet, inlet, width):
    if not is_number_below(outlet, len(table)):
        raise NoOutlet(outlet)
    if not is_number_below(inlet, len(table[0])):
        raise NoInlet(inlet)
    if not is_level(width):
        raise NoLevel(width)
    return (replaced(table, outlet, replaced(table[outlet], inlet, width)), wants)


def with_want(table, wants, outlet, want):
    if not is_number_below(outlet, len(table)):
        raise NoOutlet(outlet)
    if not is_level(want):
        raise NoLevel(want)
    return (table, replaced(wants, outlet, want))


def with_outlet(table, wants, want, widths):
    if not is_level(want):
        raise NoLevel(want)
    # The widths of an outlet have the form of a setting, those of an inlet the form of wants.
    if not is_setting(table, widths):
        raise NoWidths()
    return (join_outlets(table, (widths,)), wants + (want,))


def without_outlet(table, wants, outlet):
    return (remove_outlet(table, outlet), without(wants, outlet))


def with_inlet(table, wants, widths):
    if not are_wants(table, widths):
        raise NoWidths()
    return (join_inlets(table, turned((widths,))), wants)


def without_inlet(table, wants, inlet):
    return (remove_inlet(table, inlet), wants)


# Each operation with the number of arguments that it takes.
OPERATIONS = {
    "add_inlet": (with_inlet, 1),
    "add_outlet": (with_outlet, 2),
    "remove_inlet": (without_inlet, 1),
    "remove_outlet": (without_outlet, 1),
    "set_want": (with_want, 2),
    "set_width": (with_width, 3),
}


def all_names():
    """Return the ascending tuple of the names of the operations."""
    return tuple(sorted(list(OPERATIONS)))


def changed(table, wants, operation):
    """Return the table and the wants after an operation, a tuple of its name and its arguments."""
    name, *rest = operation
    action, many = OPERATIONS[name]
    return action(table, wants, *rest)


def are_operations(value):
    """Return whether value is a batch of operations."""
    if not isinstance(value, (list, tuple)) or len(value) > MAX_BATCH:
        return False
    return all([is_operation(part) for part in value])


def is_operation(value):
    if not isinstance(value, tuple) or len(value) == 0:
        return False
    name = value[0]
    if not isinstance(name, str) or name not in OPERATIONS:
        return False
    action, many = OPERATIONS[name]
    return len(value) == 1 + many
