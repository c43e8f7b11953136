"""What the tests share: odd values, small tables, and slow searches that follow the document's words."""

import copy
import itertools
import math
import random

from widthmix.limits import TOP

W = ((3, 5), (4, 2))


def nested(kind, depth):
    value = kind()
    for _ in range(depth - 1):
        value = {"deeper": value} if kind is dict else kind([value])
    return value


# Values of every kind that point 2 names. None of them is a level, a number, a table, a setting or wants.
ODD_VALUES = (
    None, True, False,
    -1, -TOP, TOP + 1, 10 ** 100 - 1, 1 - 10 ** 100,
    "", "0", "1", "setting", "evidence", " \n~", "x" * 5000, "3: 3 5\n4: 4 2\n",
    [], [1], [1, 2], [[3, 5], [4, 2]], [(3, 5), (4, 2)], list(range(2000)),
    (), (None,), (True, False), (None, None), ("a", "b"), ((), ()), ([3, 5], [4, 2]), ((3, 5), [4, 2]),
    ((True, True),), (("3", "5"), ("4", "2")), ((-1,),), ((TOP + 1,),), ((3, 5), (4,)), ((3, 5), ()), ((3, 5), None),
    tuple(range(2000)), ((0,) * 1999,), ((0,),) * 999,
    {}, {0: 1}, {"0": (3, 5)}, {0: (3, 5), 1: (4, 2)}, {(0, 1): [None, {"a": ()}]},
    nested(list, 20), nested(tuple, 20), nested(dict, 20),
    (0, nested(tuple, 19)), ("setting", nested(list, 19)), ("evidence", nested(dict, 19)),
)


def filled(outlets, inlets, first=0):
    """A table whose widths are all different."""
    return tuple(tuple(first + 10 * outlet + inlet for inlet in range(inlets)) for outlet in range(outlets))


def all_tables(outlets, inlets, greatest):
    rows = list(itertools.product(range(greatest + 1), repeat=inlets))
    return itertools.product(rows, repeat=outlets)


# (outlets, inlets, greatest level): small enough for a search of all settings.
SMALL = ((1, 1, 3), (1, 2, 3), (2, 1, 3), (1, 3, 2), (3, 1, 2), (2, 2, 3), (3, 2, 1), (2, 3, 1))


def small_cases():
    """All tables of small sizes with all wants up to one more than their greatest possible width."""
    for outlets, inlets, greatest in SMALL:
        for table in all_tables(outlets, inlets, greatest):
            for wants in itertools.product(range(greatest + 2), repeat=outlets):
                yield table, wants, greatest


def random_tables(seed, many, greatest=9):
    """Tables of all sizes with wants, of which about half can be reached."""
    source = random.Random(seed)
    for _ in range(many):
        outlets, inlets = source.randint(1, 6), source.randint(1, 6)
        table = tuple(random_levels(source, inlets, greatest) for _ in range(outlets))
        wants = random_levels(source, outlets, greatest)
        if source.randint(0, 1):
            wants = slow_levels(table, random_levels(source, inlets, greatest))
        yield table, wants


def crowded_tables(seed, many, distinct):
    """Tables of six outlets and six inlets with wants of few different values and many minimal solutions."""
    source = random.Random(seed)
    for _ in range(many):
        values = [source.choice((TOP, source.randint(2, TOP), source.randint(2, TOP))) for _ in range(distinct)]
        wants = tuple(source.choice(values) for _ in range(6))
        table = tuple(crowded_row(source, want) for want in wants)
        spare = source.randrange(6)
        yield tuple(row[:spare] + (want,) + row[spare + 1:] for row, want in zip(table, wants)), wants


def crowded_row(source, want):
    return tuple(source.choice((want, want, want, 0, want - 1, min(want + 1, TOP))) for _ in range(6))


def random_levels(source, many, greatest):
    return tuple(source.choice((source.randint(0, greatest), source.randint(0, greatest), 0, TOP)) for _ in range(many))


def slow_levels(table, setting):
    levels = []
    for row in table:
        greatest = 0
        for inlet, width in enumerate(row):
            smaller = width if width < setting[inlet] else setting[inlet]
            greatest = smaller if smaller > greatest else greatest
        levels.append(greatest)
    return tuple(levels)


def slow_solutions(table, wants, greatest):
    """All solutions with levels up to greatest + 1, and TOP, which no width up to greatest tells apart from it."""
    levels = (*range(greatest + 2), TOP)
    settings = itertools.product(levels, repeat=len(table[0]))
    return [setting for setting in settings if slow_levels(table, setting) == wants]


def is_below(one, other):
    return all(a <= b for a, b in zip(one, other))


def minimal_of(settings):
    """The ascending list of the settings that no other one is below; one that is below comes earlier in this order."""
    found = []
    for setting in sorted(settings):
        if not any(is_below(least, setting) for least in found):
            found.append(setting)
    return found


def slow_minimal(table, wants):
    """All minimal solutions, picked from all settings with levels that are 0 or wants: others can be lowered."""
    settings = itertools.product(sorted({0, *wants}), repeat=len(table[0]))
    return minimal_of([setting for setting in settings if slow_levels(table, setting) == wants])


def slow_cells(table, wants):
    """All solutions, in tuple order, with one pair (level, how many from it on) for levels that no want tells apart."""
    starts = sorted({0, *wants, *[want + 1 for want in wants if want < TOP]})
    pairs = [(start, end - start) for start, end in zip(starts, [*starts[1:], TOP + 1])]
    cells = itertools.product(pairs, repeat=len(table[0]))
    return [cell for cell in cells if slow_levels(table, tuple(level for level, _ in cell)) == wants]


def slow_count(cells):
    return sum(math.prod(many for _, many in cell) for cell in cells)


def slow_index(cells, setting):
    """The number of solutions that stand before the setting in tuple order."""
    index = 0
    for cell in cells:
        for inlet, (level, many) in enumerate(cell):
            smaller = min(max(setting[inlet] - level, 0), many)
            index += smaller * slow_count([cell[inlet + 1:]])
            if not level <= setting[inlet] < level + many:
                break
    return index


def slow_evidence(table, wants, tolerance=0):
    """All evidence against the tolerance, picked from all tuples of the right form."""
    outlets, inlets = len(table), len(table[0])
    found = []
    for outlet in range(outlets):
        for reasons in itertools.product((None, *range(outlets)), repeat=inlets):
            if all(excludes(table, wants, outlet, inlet, reasons[inlet], tolerance) for inlet in range(inlets)):
                found.append((outlet, reasons))
    return found


def excludes(table, wants, outlet, inlet, reason, tolerance):
    need = wants[outlet] - tolerance
    too_narrow = table[outlet][inlet] < need
    if reason is None or too_narrow:
        return reason is None and too_narrow
    return table[reason][inlet] > wants[reason] + tolerance and wants[reason] + tolerance < need


def with_one_part_changed(value, parts):
    """Yield copies of nested tuples: each part in turn left out, doubled, made a list, or replaced by each of parts."""
    for part in parts:
        yield part
    if not isinstance(value, tuple):
        return
    yield list(value)
    yield value + (None,)
    for at, inner in enumerate(value):
        yield value[:at] + value[at + 1:]
        yield value[:at] + (inner, inner) + value[at + 1:]
        for changed in with_one_part_changed(inner, parts):
            yield value[:at] + (changed,) + value[at + 1:]


def same_kinds(one, other):
    """Whether two values are equal and no truth value stands for an integer."""
    return one == other and repr(one) == repr(other)


class Unchanged:
    """Checks at the end of a with block that the values in it are as they were."""

    def __init__(self, case, *values):
        self.case = case
        self.values = values
        self.before = copy.deepcopy(values)

    def __enter__(self):
        return self

    def __exit__(self, *told):
        self.case.assertTrue(same_kinds(self.values, self.before))
