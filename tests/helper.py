"""What the tests share: odd values, small tables, and slow searches that follow the document's words."""

import copy
import itertools
import random

from widthmix.limits import TOP

W = ((3, 5), (4, 2))


def nested(kind, depth):
    value = kind()
    for _ in range(depth - 1):
        value = {"deeper": value} if kind is dict else kind([value])
    return value


# Values of every kind that point 2 names. None of them is a level, a number, a table, a setting or wants.
ODD_VALUES = (
    None, True, False,
    -1, -TOP, TOP + 1, 10 ** 100 - 1, 1 - 10 ** 100,
    "", "0", "1", "setting", "evidence", " \n~", "x" * 5000, "3: 3 5\n4: 4 2\n",
    [], [1], [1, 2], [[3, 5], [4, 2]], [(3, 5), (4, 2)], list(range(2000)),
    (), (None,), (True, False), (None, None), ("a", "b"), ((), ()), ([3, 5], [4, 2]), ((3, 5), [4, 2]),
    ((True, True),), (("3", "5"), ("4", "2")), ((-1,),), ((TOP + 1,),), ((3, 5), (4,)), ((3, 5), ()), ((3, 5), None),
    tuple(range(2000)), ((0,) * 1999,), ((0,),) * 999,
    {}, {0: 1}, {"0": (3, 5)}, {0: (3, 5), 1: (4, 2)}, {(0, 1): [None, {"a": ()}]},
    nested(list, 20), nested(tuple, 20), nested(dict, 20),
    (0, nested(tuple, 19)), ("setting", nested(list, 19)), ("evidence", nested(dict, 19)),
)


def filled(outlets, inlets, first=0):
    """A table whose widths are all different."""
    return tuple(tuple(first + 10 * outlet + inlet for inlet in range(inlets)) for outlet in range(outlets))


def all_tables(outlets, inlets, greatest):
    rows = list(itertools.product(range(greatest + 1), repeat=inlets))
    return itertools.product(rows, repeat=outlets)


def random_tables(seed, many, greatest=9):
    """Tables of all sizes with wants, of which about half can be reached."""
    source = random.Random(seed)
    for _ in range(many):
        outlets, inlets = source.randint(1, 6), source.randint(1, 6)
        table = tuple(random_levels(source, inlets, greatest) for _ in range(outlets))
        wants = random_levels(source, outlets, greatest)
        if source.randint(0, 1):
            wants = slow_levels(table, random_levels(source, inlets, greatest))
        yield table, wants


def random_levels(source, many, greatest):
    return tuple(source.choice((source.randint(0, greatest), source.randint(0, greatest), 0, TOP)) for _ in range(many))


def slow_levels(table, setting):
    levels = []
    for row in table:
        greatest = 0
        for inlet, width in enumerate(row):
            smaller = width if width < setting[inlet] else setting[inlet]
            greatest = smaller if smaller > greatest else greatest
        levels.append(greatest)
    return tuple(levels)


def slow_solutions(table, wants, greatest):
    """All solutions with levels up to greatest + 1, and TOP, which no width up to greatest tells apart from it."""
    levels = (*range(greatest + 2), TOP)
    settings = itertools.product(levels, repeat=len(table[0]))
    return [setting for setting in settings if slow_levels(table, setting) == wants]


def is_below(one, other):
    return all(a <= b for a, b in zip(one, other))


def slow_evidence(table, wants):
    """All evidence, picked from all tuples of the right form."""
    outlets, inlets = len(table), len(table[0])
    found = []
    for outlet in range(outlets):
        for reasons in itertools.product((None, *range(outlets)), repeat=inlets):
            if all(excludes(table, wants, outlet, inlet, reasons[inlet]) for inlet in range(inlets)):
                found.append((outlet, reasons))
    return found


def excludes(table, wants, outlet, inlet, reason):
    too_narrow = table[outlet][inlet] < wants[outlet]
    if reason is None or too_narrow:
        return reason is None and too_narrow
    return table[reason][inlet] > wants[reason] and wants[reason] < wants[outlet]


def with_one_part_changed(value, parts):
    """Yield copies of nested tuples: each part in turn left out, doubled, made a list, or replaced by each of parts."""
    for part in parts:
        yield part
    if not isinstance(value, tuple):
        return
    yield list(value)
    yield value + (None,)
    for at, inner in enumerate(value):
        yield value[:at] + value[at + 1:]
        yield value[:at] + (inner, inner) + value[at + 1:]
        for changed in with_one_part_changed(inner, parts):
            yield value[:at] + (changed,) + value[at + 1:]


def same_kinds(one, other):
    """Whether two values are equal and no truth value stands for an integer."""
    return one == other and repr(one) == repr(other)


class Unchanged:
    """Checks at the end of a with block that the values in it are as they were."""

    def __init__(self, case, *values):
        self.case = case
        self.values = values
        self.before = copy.deepcopy(values)

    def __enter__(self):
        return self

    def __exit__(self, *told):
        self.case.assertTrue(same_kinds(self.values, self.before))
