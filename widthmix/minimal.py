"""Minimal solutions, and the numbers of all solutions in tuple order."""

from widthmix.checks import is_number_below
from widthmix.errors import NoIndex, NoInlet, NoSetting
from widthmix.solutions import check_solvable, highest_setting, highest_solution, is_solution
from widthmix.tables import levels_of, replaced


def minimal_solutions(table, wants):
    """Return the ascending tuple of all solutions that no other solution is below."""
    upper = highest_solution(table, wants)
    found = [(0,) * len(upper)]
    # Any order is correct. With the greatest want first, no inlet is raised twice, so there are few settings to keep.
    for outlet in sorted(range(len(table)), key=lambda number: wants[number], reverse=True):
        want = wants[outlet]
        inlets = serving_inlets(table[outlet], upper, want)
        found = sorted({raised for setting in found for raised in least_raised(setting, inlets, want)})
    # Of two outlets with the same want, the later one may have made the inlet of the earlier one needless.
    return tuple([setting for setting in found if is_minimal(table, wants, setting)])


def serving_inlets(row, upper, want):
    return [inlet for inlet, width in enumerate(row) if want <= width and want <= upper[inlet]]


def least_raised(setting, inlets, want):
    """Return the setting if one of the inlets has the want, else the settings with one of them raised to it."""
    if any([setting[inlet] >= want for inlet in inlets]):
        return [setting]
    return [replaced(setting, inlet, want) for inlet in inlets]


def is_minimal(table, wants, value):
    """Return whether value is a solution that no other solution is below."""
    if not is_solution(table, wants, value):
        return False
    # Whatever lies between two solutions is a solution, so it is enough to try one step down.
    lowered = [replaced(value, inlet, level - 1) for inlet, level in enumerate(value) if level > 0]
    return not any([is_solution(table, wants, setting) for setting in lowered])


def inlet_range(table, wants, inlet):
    """Return the least and the greatest level of the inlet in any solution."""
    if not is_number_below(inlet, len(table[0])):
        raise NoInlet(inlet)
    upper = highest_solution(table, wants)
    # What the other inlets do not give at their greatest levels, this one must give.
    levels = levels_of(table, replaced(upper, inlet, 0))
    least = max([want for level, want in zip(levels, wants) if level < want], default=0)
    return (least, upper[inlet])


def count_solutions(table, wants):
    """Return the number of solutions."""
    return count_from(all_runs(table, wants), 0, all_outlets(table), {})


def solution_at(table, wants, index):
    """Return the solution with that index in tuple order."""
    check_solvable(table, wants)
    runs, outlets, known = all_runs(table, wants), all_outlets(table), {}
    if not is_number_below(index, count_from(runs, 0, outlets, known)):
        raise NoIndex(index)
    return setting_at(runs, outlets, index, known)


def solution_index(table, wants, value):
    """Return the index of a solution in tuple order."""
    check_solvable(table, wants)
    if not is_solution(table, wants, value):
        raise NoSetting()
    return index_of(all_runs(table, wants), all_outlets(table), value, {})


def walk_solutions(table, wants, *, first=0, most=20):
    """Yield the solutions from the index first, at most that many."""
    runs, outlets, known = all_runs(table, wants), all_outlets(table), {}
    many = count_from(runs, 0, outlets, known)
    if is_number_below(first, many):
        for index in range(first, min(first + most, many)):
            yield setting_at(runs, outlets, index, known)


def all_outlets(table):
    return tuple(range(len(table)))


def all_runs(table, wants):
    upper = highest_setting(table, wants)
    return [runs_of(table, wants, inlet, upper[inlet]) for inlet in range(len(upper))]


def runs_of(table, wants, inlet, highest):
    """Return (start, end, served) for each run of levels below end at which the inlet serves the same outlets."""
    # Up to its highest level the inlet gives no outlet too much, so it serves each one that it gives the want.
    most = [outlet for outlet, row in enumerate(table) if wants[outlet] <= min(row[inlet], highest)]
    starts = sorted(set([0] + [wants[outlet] for outlet in most]))
    ends = starts[1:] + [highest + 1]
    return [(start, end, served_from(wants, most, start)) for start, end in zip(starts, ends)]


def served_from(wants, outlets, level):
    return tuple([outlet for outlet in outlets if wants[outlet] <= level])


def without_served(unmet, served):
    return tuple([outlet for outlet in unmet if outlet not in served])


def count_from(runs, inlet, unmet, known):
    """Return in how many ways the inlets from this one on serve all unmet outlets; known keeps the answers."""
    if inlet == len(runs):
        return 0 if unmet else 1
    if (inlet, unmet) not in known:
        known[inlet, unmet] = sum([(end - start) * count_from(runs, inlet + 1, without_served(unmet, served), known)
                                   for start, end, served in runs[inlet]])
    return known[inlet, unmet]


def setting_at(runs, unmet, index, known):
    setting = []
    for inlet in range(len(runs)):
        level, unmet, index = level_at(runs, inlet, unmet, index, known)
        setting.append(level)
    return tuple(setting)


def level_at(runs, inlet, unmet, index, known):
    """Return the level of the inlet, the outlets unmet then, and the index among the solutions with that level."""
    for start, end, served in runs[inlet]:
        left = without_served(unmet, served)
        each = count_from(runs, inlet + 1, left, known)
        if index < (end - start) * each:
            break
        index -= (end - start) * each
    return (start + index // each, left, index % each)


def index_of(runs, unmet, setting, known):
    index = 0
    for inlet, level in enumerate(setting):
        index += count_below(runs, inlet, unmet, level, known)
        unmet = without_served(unmet, served_at(runs[inlet], level))
    return index


def count_below(runs, inlet, unmet, level, known):
    """Return in how many ways the inlets from this one on serve all unmet outlets, with this one below the level."""
    return sum([(min(level, end) - start) * count_from(runs, inlet + 1, without_served(unmet, served), known)
                for start, end, served in runs[inlet] if start < level])


def served_at(inlet_runs, level):
    return [served for start, end, served in inlet_runs if start <= level < end][0]
