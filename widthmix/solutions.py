"""Settings that give wanted levels, and evidence that there are none."""

from widthmix.checks import is_number_below, is_tuple_of
from widthmix.errors import NoSolution, NoWants
from widthmix.limits import TOP
from widthmix.tables import are_wants, is_setting, levels_of


def upper_setting(table, wants):
    """Return the greatest setting for which no level exceeds the want."""
    if not are_wants(table, wants):
        raise NoWants()
    return highest_setting(table, wants)


def highest_setting(table, caps):
    """Return the greatest setting for which no level exceeds its cap."""
    return tuple([highest_level(table, caps, inlet) for inlet in range(len(table[0]))])


def highest_level(table, caps, inlet):
    return min([cap for row, cap in zip(table, caps) if row[inlet] > cap], default=TOP)


def is_solution(table, wants, value):
    """Return whether value is a setting whose levels are the wants."""
    # Only wants are compared, because (True,) equals (1,) in Python.
    return are_wants(table, wants) and is_setting(table, value) and levels_of(table, value) == wants


def find_evidence(table, wants):
    """Return evidence that there is no solution, or None if there is one."""
    if not are_wants(table, wants):
        raise NoWants()
    return evidence_between(table, wants, wants)


def evidence_between(table, needs, caps):
    """Return evidence that no setting gives each outlet its need and nothing above its cap, or None if one does."""
    levels = levels_of(table, highest_setting(table, caps))
    for outlet in range(len(table)):
        if levels[outlet] < needs[outlet]:
            return (outlet, reasons_of(table, needs, caps, outlet))
    return None


def reasons_of(table, needs, caps, outlet):
    return tuple([reason_of(table, needs, caps, outlet, inlet) for inlet in range(len(table[0]))])


def reason_of(table, needs, caps, outlet, inlet):
    if table[outlet][inlet] < needs[outlet]:
        return None
    # The highest setting leaves this outlet short, so some outlet holds the inlet down.
    return [number for number in range(len(table)) if is_reason(table, needs, caps, outlet, inlet, number)][0]


def is_evidence(table, wants, value):
    """Return whether value is evidence that there is no solution."""
    return are_wants(table, wants) and is_evidence_between(table, wants, wants, value)


def is_evidence_between(table, needs, caps, value):
    """Return whether value is evidence that no setting gives each outlet its need and nothing above its cap."""
    if not is_tuple_of(value, 2):
        return False
    outlet, reasons = value
    return is_number_below(outlet, len(table)) and are_reasons(table, needs, caps, outlet, reasons)


def are_reasons(table, needs, caps, outlet, reasons):
    if not is_tuple_of(reasons, len(table[0])):
        return False
    return all([is_reason(table, needs, caps, outlet, inlet, reason) for inlet, reason in enumerate(reasons)])


def is_reason(table, needs, caps, outlet, inlet, reason):
    if table[outlet][inlet] < needs[outlet]:
        return reason is None
    if not is_number_below(reason, len(table)):
        return False
    return caps[reason] < table[reason][inlet] and caps[reason] < needs[outlet]


def greatest_solution(table, wants):
    """Return the solution that every solution is below."""
    if not are_wants(table, wants):
        raise NoWants()
    return highest_solution(table, wants)


def highest_solution(table, wants):
    """Return the greatest solution for wants that need no check."""
    check_solvable(table, wants)
    return highest_setting(table, wants)


def check_solvable(table, wants):
    evidence = evidence_between(table, wants, wants)
    if evidence is not None:
        raise NoSolution(evidence)


def certificate(table, wants):
    """Return the greatest solution, or evidence that there is none, with a word that says which."""
    evidence = find_evidence(table, wants)
    if evidence is None:
        return ("setting", upper_setting(table, wants))
    return ("evidence", evidence)


def is_certificate(table, wants, value):
    """Return whether value is a solution or evidence, with the word that says which."""
    if not is_tuple_of(value, 2):
        return False
    word, proof = value
    if word == "setting":
        return is_solution(table, wants, proof)
    return word == "evidence" and is_evidence(table, wants, proof)
