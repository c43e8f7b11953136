"""Tables of widths, and the levels that they give at a setting."""

from widthmix.checks import are_levels, is_level, is_number_below
from widthmix.errors import LastInlet, LastOutlet, NoInlet, NoLevel, NoMatch, NoOutlet, NoSetting, TooMany
from widthmix.limits import MAX_INLETS, MAX_OUTLETS, TOP


def is_table(value):
    """Return whether value is a table."""
    if not isinstance(value, tuple) or not 1 <= len(value) <= MAX_OUTLETS:
        return False
    first = value[0]
    if not isinstance(first, tuple) or not 1 <= len(first) <= MAX_INLETS:
        return False
    return all([are_levels(row, len(first)) for row in value])


def is_setting(table, value):
    """Return whether value is a setting of the table."""
    return are_levels(value, len(table[0]))


def are_wants(table, value):
    """Return whether value is wants for the table."""
    return are_levels(value, len(table))


def level_of(row, setting):
    return max([min(width, level) for width, level in zip(row, setting)])


def levels_of(table, setting):
    """Return the levels of all outlets at the setting."""
    if not is_setting(table, setting):
        raise NoSetting()
    return tuple([level_of(row, setting) for row in table])


def column(table, inlet):
    return tuple([row[inlet] for row in table])


def turned(table):
    """Return the table with outlets and inlets exchanged."""
    return tuple([column(table, inlet) for inlet in range(len(table[0]))])


def cut_row(row, level):
    return tuple([TOP if width >= level else 0 for width in row])


def cut_at(table, level):
    """Return the table with TOP for each width of at least level, and 0 elsewhere."""
    if not is_level(level):
        raise NoLevel(level)
    return tuple([cut_row(row, level) for row in table])


def without(parts, number):
    return parts[:number] + parts[number + 1:]


def replaced(parts, number, part):
    return parts[:number] + (part,) + parts[number + 1:]


def remove_outlet(table, outlet):
    """Return the table without that outlet."""
    if not is_number_below(outlet, len(table)):
        raise NoOutlet(outlet)
    if len(table) == 1:
        raise LastOutlet()
    return without(table, outlet)


def remove_inlet(table, inlet):
    """Return the table without that inlet."""
    if not is_number_below(inlet, len(table[0])):
        raise NoInlet(inlet)
    if len(table[0]) == 1:
        raise LastInlet()
    return tuple([without(row, inlet) for row in table])


def join_outlets(one, other):
    """Return the table with the outlets of one, then those of other."""
    return with_all_outlets((one, other))


def join_inlets(one, other):
    """Return the table with the inlets of one, then those of other."""
    return with_all_inlets((one, other))


def merged(*tables, beside=False):
    """Return the table with the outlets of all tables, or, with beside=True, with their inlets."""
    if beside:
        return with_all_inlets(tables)
    return with_all_outlets(tables)


def with_all_outlets(tables):
    inlets = len(tables[0][0])
    if any([len(table[0]) != inlets for table in tables]):
        raise NoMatch()
    rows = [row for table in tables for row in table]
    if len(rows) > MAX_OUTLETS:
        raise TooMany(MAX_OUTLETS)
    return tuple(rows)


def with_all_inlets(tables):
    outlets = len(tables[0])
    if any([len(table) != outlets for table in tables]):
        raise NoMatch()
    if sum([len(table[0]) for table in tables]) > MAX_INLETS:
        raise TooMany(MAX_INLETS)
    return tuple([joined_row(tables, outlet) for outlet in range(outlets)])


def joined_row(tables, outlet):
    return tuple([width for table in tables for width in table[outlet]])
