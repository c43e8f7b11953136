"""The settings at which two tables agree."""

from widthmix.checks import is_level, is_number_below, is_tuple_of
from widthmix.errors import NoMatch, NoSetting
from widthmix.products import check_square, unit_table
from widthmix.tables import is_setting, level_of, levels_of, replaced


def agree_at(one, other, setting):
    """Return whether the levels of both tables at the setting are equal."""
    check_fit(one, other, setting)
    return levels_of(one, setting) == levels_of(other, setting)


def check_fit(one, other, setting):
    if len(one) != len(other) or len(one[0]) != len(other[0]):
        raise NoMatch()
    if not is_setting(one, setting):
        raise NoSetting()


def common_setting(one, other, bounds):
    """Return the greatest setting below the bounds at which the tables agree."""
    setting = bounds
    for lowering in find_lowerings(one, other, bounds):
        setting = lowered_by(setting, lowering)
    return setting


def find_lowerings(one, other, bounds):
    """Return lowerings, each allowed after the earlier ones, that lead from the bounds to the common setting."""
    check_fit(one, other, bounds)
    tables = (one, other)
    setting = bounds
    found = []
    # Each lowering gives an inlet a smaller width or bound, so this ends after few steps, however great the levels are.
    lowering = next_lowering(tables, setting)
    while lowering is not None:
        found.append(lowering)
        setting = lowered_by(setting, lowering)
        lowering = next_lowering(tables, setting)
    return tuple(found)


def next_lowering(tables, setting):
    """Return a lowering that is allowed at the setting, or None if the tables agree at it."""
    for outlet in range(len(tables[0])):
        for side in (0, 1):
            level = level_of(tables[1 - side][outlet], setting)
            for inlet, width in enumerate(tables[side][outlet]):
                if min(width, setting[inlet]) > level:
                    return (outlet, side, inlet, level)
    return None


def lowered_by(setting, lowering):
    outlet, side, inlet, level = lowering
    return replaced(setting, inlet, level)


def lowerings_hold(one, other, bounds, value):
    """Return whether value is lowerings, each allowed after the earlier ones, from the bounds to an agreement."""
    check_fit(one, other, bounds)
    if not isinstance(value, tuple):
        return False
    setting = bounds
    for lowering in value:
        if not is_allowed((one, other), setting, lowering):
            return False
        setting = lowered_by(setting, lowering)
    return agree_at(one, other, setting)


def is_allowed(tables, setting, value):
    """Return whether value is a lowering that is allowed at the setting."""
    if not is_tuple_of(value, 4):
        return False
    outlet, side, inlet, level = value
    if not is_number_below(outlet, len(tables[0])) or not is_number_below(side, 2):
        return False
    if not is_number_below(inlet, len(setting)) or not is_level(level):
        return False
    if level_of(tables[1 - side][outlet], setting) != level:
        return False
    return min(tables[side][outlet][inlet], setting[inlet]) > level


def fixed_setting(table, bounds):
    """Return the greatest setting below the bounds that equals its own levels."""
    check_square(table)
    # The levels of the unit table are the setting itself.
    return common_setting(table, unit_table(len(table)), bounds)
