"""The least tolerance with which wanted levels can be met, and evidence against smaller ones."""

from widthmix.checks import is_level, is_tuple_of
from widthmix.errors import NoLevel
from widthmix.limits import TOP
from widthmix.solutions import evidence_between, highest_setting, is_evidence_between
from widthmix.tables import is_setting, levels_of


def setting_within(table, wants, tolerance):
    """Return the greatest setting within the tolerance, or None if there is none."""
    if not is_level(tolerance):
        raise NoLevel(tolerance)
    return highest_within(table, wants, tolerance)


def highest_within(table, wants, tolerance):
    """Return the greatest setting within a tolerance that needs no check, or None if there is none."""
    highest = highest_setting(table, raised(wants, tolerance))
    return highest if is_within(table, wants, tolerance, highest) else None


def is_evidence_against(table, wants, tolerance, value):
    """Return whether value is evidence that no setting is within the tolerance."""
    if not is_level(tolerance):
        raise NoLevel(tolerance)
    return is_evidence_between(table, lowered(wants, tolerance), raised(wants, tolerance), value)


def least_tolerance(table, wants):
    """Return the least tolerance that some setting is within."""
    # A setting stays within every greater tolerance, so halving the range finds the least one.
    low = 0
    high = TOP
    while low < high:
        middle = (low + high) // 2
        if highest_within(table, wants, middle) is None:
            low = middle + 1
        else:
            high = middle
    return low


def tolerance_certificate(table, wants):
    """Return the least tolerance, the greatest setting within it, and evidence against the next smaller one."""
    tolerance = least_tolerance(table, wants)
    return (tolerance, highest_within(table, wants, tolerance), evidence_below(table, wants, tolerance))


def is_tolerance_certificate(table, wants, value):
    """Return whether value is a tolerance, a setting within it, and evidence against the next smaller one."""
    if not is_tuple_of(value, 3):
        return False
    tolerance, setting, evidence = value
    if not is_level(tolerance) or not is_setting(table, setting) or not is_within(table, wants, tolerance, setting):
        return False
    if tolerance == 0:
        return evidence is None
    return is_evidence_against(table, wants, tolerance - 1, evidence)


def is_within(table, wants, tolerance, setting):
    return all([abs(level - want) <= tolerance for level, want in zip(levels_of(table, setting), wants)])


def evidence_below(table, wants, tolerance):
    if tolerance == 0:
        return None
    return evidence_between(table, lowered(wants, tolerance - 1), raised(wants, tolerance - 1))


def raised(wants, tolerance):
    return tuple([want + tolerance for want in wants])


def lowered(wants, tolerance):
    return tuple([want - tolerance for want in wants])
