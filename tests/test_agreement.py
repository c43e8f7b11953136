import itertools
import random
import unittest

from tests.helper import (
    ODD_VALUES, Unchanged, W, all_tables, filled, is_below, random_levels, same_kinds, slow_levels,
    with_one_part_changed,
)
from widthmix.agreement import agree_at, common_setting, find_lowerings, fixed_setting, lowerings_hold
from widthmix.errors import NoMatch, NoSetting, NotSquare
from widthmix.limits import TOP

SIZES = list(itertools.product(range(1, 7), repeat=2))
# (outlets, inlets, greatest width): small enough for all pairs of tables.
SMALL_PAIRS = ((1, 1, 3), (1, 2, 2), (2, 1, 2), (2, 2, 1), (1, 3, 1), (3, 1, 1))
NO_SETTINGS = ((4,), (4, 1, 0), [4, 1], (True, 1), (4, False), (-1, 1), (4, TOP + 1), (4, None), (4, "1"), ((4,), 1),
               {0: 4, 1: 1}, *ODD_VALUES)


def small_pairs(step):
    """Every step-th pair of small tables, with all bounds up to one more than the greatest width, and with TOP."""
    for outlets, inlets, greatest in SMALL_PAIRS:
        pairs = itertools.product(all_tables(outlets, inlets, greatest), repeat=2)
        for one, other in itertools.islice(pairs, 0, None, step):
            for bounds in itertools.product((*range(greatest + 2), TOP), repeat=inlets):
                yield one, other, bounds, greatest


def slow_agreeing(one, other, bounds, greatest):
    """All settings below the bounds at which the tables agree, but levels above the greatest width only as bounds."""
    levels = [sorted({*range(min(bound, greatest + 1) + 1), bound}) for bound in bounds]
    settings = itertools.product(*levels)
    return [setting for setting in settings if slow_levels(one, setting) == slow_levels(other, setting)]


def is_plain(value, most):
    return type(value) is int and 0 <= value <= most


def slow_lowered(one, other, setting, value):
    """The setting that a lowering makes, or None if it is not allowed, in the order of the document's words."""
    if type(value) is not tuple or len(value) != 4:
        return None
    outlet, side, inlet, level = value
    if not (is_plain(outlet, len(one) - 1) and is_plain(side, 1) and is_plain(inlet, len(setting) - 1)):
        return None
    own, opposite = (other, one) if side else (one, other)
    if not is_plain(level, TOP) or slow_levels(opposite, setting)[outlet] != level:
        return None
    if not own[outlet][inlet] > level or not setting[inlet] > level:
        return None
    return tuple(level if number == inlet else old for number, old in enumerate(setting))


def slow_end(one, other, bounds, value):
    """The setting at the end of lowerings, or None if one of them is not allowed or value is no tuple."""
    if type(value) is not tuple:
        return None
    setting = bounds
    for lowering in value:
        setting = slow_lowered(one, other, setting, lowering)
        if setting is None:
            return None
    return setting


def slow_hold(one, other, bounds, value):
    end = slow_end(one, other, bounds, value)
    return end is not None and slow_levels(one, end) == slow_levels(other, end)


def slow_fixed(table, bounds):
    """The greatest fixed setting: a level above that of its outlet, or above one that it would raise, is in none."""
    setting = bounds
    while slow_levels(table, setting) != setting:
        levels = slow_levels(table, setting)
        caps = [[setting[outlet] for outlet, row in enumerate(table) if row[inlet] > setting[outlet]]
                for inlet in range(len(table))]
        setting = tuple(min(setting[inlet], levels[inlet], *caps[inlet]) for inlet in range(len(table)))
    return setting


def drawn_pairs(seed, many, outlets, inlets, greatest):
    """Pairs of tables and bounds; many widths of the second table are those of the first one."""
    source = random.Random(seed)
    for _ in range(many):
        one = tuple(random_levels(source, inlets, greatest) for _ in range(outlets))
        other = tuple(tuple(source.choice((width, source.randint(0, greatest))) for width in row) for row in one)
        yield one, other, random_levels(source, inlets, greatest)


class SearchTest(unittest.TestCase):
    """Points 3 (e) and 46 to 50, against a search of all settings below the bounds."""

    def check(self, one, other, bounds, greatest):
        agreeing = slow_agreeing(one, other, bounds, greatest)
        common = common_setting(one, other, bounds)
        self.assertIn(common, agreeing, (one, other, bounds))
        self.assertTrue(all(is_below(setting, common) for setting in agreeing), (one, other, bounds))
        self.check_lowerings(one, other, bounds, common)

    def check_lowerings(self, one, other, bounds, common):
        found = find_lowerings(one, other, bounds)
        self.assertEqual(slow_end(one, other, bounds, found), common, (one, other, bounds))
        self.assertIs(lowerings_hold(one, other, bounds, found), True)
        self.assertTrue(same_kinds(find_lowerings(one, other, bounds), found))
        self.assertEqual(found == (), bounds == common)

    def test_small_tables(self):
        for one, other, bounds, greatest in small_pairs(1):
            self.check(one, other, bounds, greatest)

    def test_agree_at_on_small_tables(self):
        for one, other, setting, _ in small_pairs(1):
            self.assertIs(agree_at(one, other, setting), slow_levels(one, setting) == slow_levels(other, setting))

    def test_larger_tables_with_small_widths(self):
        for outlets, inlets, greatest in ((3, 3, 3), (6, 2, 5), (2, 4, 2), (6, 6, 1), (1, 6, 1)):
            for one, other, bounds in drawn_pairs(91 + inlets, 25, outlets, inlets, greatest):
                one = tuple(tuple(min(width, greatest) for width in row) for row in one)
                self.check(one, other, bounds, greatest)

    def test_all_lowerings_of_small_tables(self):
        for one, other, bounds, greatest in small_pairs(7):
            numbers = [range(-1, len(one) + 1), range(-1, 3), range(-1, len(bounds) + 1), range(-1, greatest + 2)]
            for lowering in itertools.product(*numbers):
                value = (lowering,)
                self.assertIs(lowerings_hold(one, other, bounds, value), slow_hold(one, other, bounds, value))

    def test_pairs_of_lowerings(self):
        one, other, bounds = ((2, 0), (0, 2)), ((1, 0), (0, 1)), (3, 2)
        lowerings = list(itertools.product(range(2), range(2), range(2), range(3)))
        held = 0
        for value in itertools.product(lowerings, repeat=2):
            expected = slow_hold(one, other, bounds, value)
            held += expected
            self.assertIs(lowerings_hold(one, other, bounds, value), expected, value)
        self.assertGreater(held, 0)


class LargeTest(unittest.TestCase):
    """Points 3 (e), 48 and 49, with six outlets and six inlets."""

    def test_widths_up_to_top(self):
        lengths = set()
        for one, other, bounds in drawn_pairs(95, 300, 6, 6, TOP):
            with Unchanged(self, one, other, bounds):
                found = find_lowerings(one, other, bounds)
                common = common_setting(one, other, bounds)
            lengths.add(len(found))
            self.assertIs(type(found), tuple)
            # Each lowering keeps all settings below at which the tables agree, so the end is the greatest one.
            self.assertEqual(slow_end(one, other, bounds, found), common)
            self.assertEqual(slow_levels(one, common), slow_levels(other, common))
            self.assertIs(agree_at(one, other, common), True)
            self.assertIs(lowerings_hold(one, other, bounds, found), True)
        self.assertGreater(max(lengths), 6)

    def test_widths_that_go_down_step_by_step(self):
        one = tuple(tuple(TOP - 10 * outlet - inlet for inlet in range(6)) for outlet in range(6))
        other = tuple(tuple(TOP - 10 * outlet - (inlet + 1) for inlet in range(6)) for outlet in range(6))
        for bounds in ((TOP,) * 6, tuple(TOP - 7 * inlet for inlet in range(6)), (TOP - 1, 0, TOP, 5, TOP, TOP)):
            found = find_lowerings(one, other, bounds)
            common = common_setting(one, other, bounds)
            self.assertEqual(slow_end(one, other, bounds, found), common)
            self.assertEqual(slow_levels(one, common), slow_levels(other, common))

    def test_both_tables_exchanged(self):
        for one, other, bounds in drawn_pairs(96, 50, 6, 6, 9):
            self.assertEqual(common_setting(one, other, bounds), common_setting(other, one, bounds))
            exchanged = tuple((outlet, 1 - side, inlet, level)
                              for outlet, side, inlet, level in find_lowerings(one, other, bounds))
            self.assertIs(lowerings_hold(other, one, bounds, exchanged), True)


class EdgesTest(unittest.TestCase):
    """Points 46 to 50."""

    def test_tables_that_agree_everywhere(self):
        source = random.Random(97)
        for outlets, inlets in SIZES:
            table = tuple(random_levels(source, inlets, TOP) for _ in range(outlets))
            for bounds in ((0,) * inlets, (TOP,) * inlets, random_levels(source, inlets, TOP)):
                self.assertIs(agree_at(table, table, bounds), True)
                self.assertEqual(common_setting(table, table, bounds), bounds)
                self.assertEqual(find_lowerings(table, table, bounds), ())
                self.assertIs(lowerings_hold(table, table, bounds, ()), True)

    def test_bounds_of_zeros(self):
        for outlets, inlets in SIZES:
            one, other, zeros = filled(outlets, inlets), filled(outlets, inlets, 7), (0,) * inlets
            self.assertIs(agree_at(one, other, zeros), True)
            self.assertEqual(common_setting(one, other, zeros), zeros)
            self.assertEqual(find_lowerings(one, other, zeros), ())

    def test_bounds_of_top(self):
        self.assertEqual(common_setting(((3, 5),), ((4, 2),), (TOP, TOP)), (TOP, 4))
        self.assertEqual(common_setting(((0,),), ((TOP,),), (TOP,)), (0,))
        self.assertEqual(find_lowerings(((0,),), ((TOP,),), (TOP,)), ((0, 1, 0, 0),))
        self.assertEqual(common_setting(((TOP - 1,),), ((TOP,),), (TOP,)), (TOP - 1,))
        self.assertEqual(find_lowerings(((TOP,),), ((TOP - 1,),), (TOP,)), ((0, 0, 0, TOP - 1),))
        self.assertEqual(find_lowerings(((TOP,),), ((TOP - 1,),), (TOP - 1,)), ())

    def test_more_than_one_table_lowers(self):
        one, other = ((5, 0), (0, 4)), ((0, 4), (3, 0))
        self.assertEqual(common_setting(one, other, (9, 9)), (3, 3))
        self.assertEqual(common_setting(one, other, (9, 2)), (2, 2))
        self.assertEqual(common_setting(one, other, (9, 0)), (0, 0))

    def test_most_of_both_settings(self):
        for one, other, bounds in drawn_pairs(98, 60, 2, 3, 4):
            agreeing = slow_agreeing(one, other, tuple(min(bound, 5) for bound in bounds), 4)
            for setting, second in itertools.product(agreeing[:6], agreeing[-6:]):
                joined = tuple(max(pair) for pair in zip(setting, second))
                self.assertIs(agree_at(one, other, joined), True)


class ChangedLoweringsTest(unittest.TestCase):
    """Points 2, 3 (a) and 50: lowerings with parts changed, left out, doubled and in another order."""

    def cases(self):
        yield ((3, 5),), ((4, 2),), (9, 9)
        yield ((5, 0), (0, 4)), ((0, 4), (3, 0)), (9, 9)
        yield W, ((3, 5), (4, 2)), (9, 9)
        yield W, ((1, 1), (1, 1)), (1, 9)
        yield from drawn_pairs(99, 12, 3, 3, 3)

    def test_one_part_changed(self):
        parts = (*ODD_VALUES, 0, 1, 2, 3, 4, 5, TOP, (0, 0, 1, 4), (0, 0, 1), (0, 0, 1, 4, 0), [0, 0, 1, 4])
        for one, other, bounds in self.cases():
            found = find_lowerings(one, other, bounds)
            for value in with_one_part_changed(found, parts):
                with Unchanged(self, value):
                    result = lowerings_hold(one, other, bounds, value)
                self.assertIs(result, slow_hold(one, other, bounds, value), (one, other, bounds, value))

    def test_truth_values_in_place_of_numbers(self):
        one, other = ((5, 0), (1, 4)), ((0, 4), (3, 0))
        found = find_lowerings(one, other, (9, 9))
        for at, lowering in enumerate(found):
            for part, number in enumerate(lowering):
                if number in (0, 1):
                    changed = lowering[:part] + (bool(number),) + lowering[part + 1:]
                    self.assertIs(lowerings_hold(one, other, (9, 9), found[:at] + (changed,) + found[at + 1:]), False)
        # The level 1 as a truth value.
        self.assertIs(lowerings_hold(((5,),), ((1,),), (9,), ((0, 0, 0, 1),)), True)
        self.assertIs(lowerings_hold(((5,),), ((1,),), (9,), ((0, 0, 0, True),)), False)
        self.assertIs(lowerings_hold(((5,),), ((0,),), (9,), ((0, 0, 0, False),)), False)

    def test_parts_left_out_doubled_and_in_another_order(self):
        for one, other, bounds in self.cases():
            found = find_lowerings(one, other, bounds)
            values = [found[:at] for at in range(len(found))]
            values += [found + found, found[::-1], found[1:], list(found), (found,)]
            values += [found[:at] + found[at + 1:] for at in range(len(found))]
            values += [found[:at] + (found[at],) + found[at:] for at in range(len(found))]
            values += list(itertools.permutations(found)) if len(found) <= 5 else []
            for value in values:
                expected = slow_hold(one, other, bounds, value)
                self.assertIs(lowerings_hold(one, other, bounds, value), expected, (one, other, bounds, value))
            for at in range(len(found)):
                self.assertIs(lowerings_hold(one, other, bounds, found[:at]), False)

    def test_other_orders_that_hold(self):
        one, other = ((2, 0), (0, 2)), ((1, 0), (0, 1))
        first, second = (0, 0, 0, 1), (1, 0, 1, 1)
        self.assertIs(lowerings_hold(one, other, (9, 9), (first, second)), True)
        self.assertIs(lowerings_hold(one, other, (9, 9), (second, first)), True)
        self.assertIs(lowerings_hold(one, other, (9, 9), (first,)), False)
        self.assertIs(lowerings_hold(one, other, (9, 9), (first, second, second)), False)

    def test_odd_values(self):
        for value in ODD_VALUES:
            with Unchanged(self, value):
                self.assertIs(lowerings_hold(((3, 5),), ((4, 2),), (9, 9), value), False, value)
            self.assertIs(lowerings_hold(((3, 5),), ((4, 2),), (9, 9), (value,)), False, value)
            self.assertIs(lowerings_hold(((3, 5),), ((4, 2),), (9, 9), ((0, 0, 1, 4), value)), False, value)
            self.assertIs(lowerings_hold(W, W, (9, 9), value), value == () and type(value) is tuple, value)

    def test_lowerings_that_change_nothing_are_not_allowed(self):
        self.assertIs(lowerings_hold(W, W, (9, 9), ((0, 0, 0, 5),)), False)
        # The inlet has just the level, or the outlet just the width.
        self.assertIs(lowerings_hold(((5,),), ((3,),), (3,), ((0, 0, 0, 3),)), False)
        self.assertIs(lowerings_hold(((3,),), ((3,),), (9,), ((0, 0, 0, 3),)), False)


class ErrorsTest(unittest.TestCase):
    """Points 2, 47 to 50 and 81."""

    def calls(self, one, other, setting):
        return ((agree_at, one, other, setting), (common_setting, one, other, setting),
                (find_lowerings, one, other, setting), (lowerings_hold, one, other, setting, ()),
                (lowerings_hold, one, other, setting, None))

    def test_no_match(self):
        for (outlets, inlets), (more, others) in itertools.product(SIZES, repeat=2):
            if (outlets, inlets) == (more, others):
                continue
            one, other = filled(outlets, inlets), filled(more, others)
            for setting in ((0,) * inlets, (0,) * others, None):
                for function, *given in self.calls(one, other, setting):
                    with self.assertRaises(NoMatch):
                        function(*given)

    def test_turned_sizes_do_not_fit(self):
        for function, *given in self.calls(((3, 5),), ((3,), (5,)), (9, 9)):
            with self.assertRaises(NoMatch):
                function(*given)

    def test_no_setting(self):
        for setting in NO_SETTINGS:
            for function, *given in self.calls(W, W, setting):
                with Unchanged(self, setting), self.assertRaises(NoSetting):
                    function(*given)

    def test_lengths_of_settings(self):
        for outlets, inlets in SIZES:
            one, other = filled(outlets, inlets), filled(outlets, inlets, 3)
            for many in range(8):
                for function, *given in self.calls(one, other, (1,) * many):
                    if many == inlets:
                        function(*given)
                    else:
                        with self.assertRaises(NoSetting):
                            function(*given)


class FixedSettingTest(unittest.TestCase):
    """Point 51."""

    def test_small_tables_against_a_search(self):
        for size, greatest in ((1, 3), (2, 2)):
            for table in all_tables(size, size, greatest):
                for bounds in itertools.product((*range(greatest + 2), TOP), repeat=size):
                    self.check(table, bounds, greatest)

    def test_drawn_tables_against_a_search(self):
        for size, greatest in ((3, 3), (4, 2), (6, 1)):
            for table, _, bounds in drawn_pairs(100 + size, 40, size, size, greatest):
                self.check(tuple(tuple(min(width, greatest) for width in row) for row in table), bounds, greatest)

    def check(self, table, bounds, greatest):
        levels = [sorted({*range(min(bound, greatest + 1) + 1), bound}) for bound in bounds]
        fixed = [setting for setting in itertools.product(*levels) if slow_levels(table, setting) == setting]
        result = fixed_setting(table, bounds)
        self.assertIn(result, fixed, (table, bounds))
        self.assertTrue(all(is_below(setting, result) for setting in fixed), (table, bounds))

    def test_large_tables(self):
        for table, _, bounds in drawn_pairs(104, 100, 6, 6, TOP):
            with Unchanged(self, table, bounds):
                result = fixed_setting(table, bounds)
            self.assertEqual(slow_levels(table, result), result)
            self.assertTrue(is_below(result, bounds))
            self.assertEqual(slow_fixed(table, bounds), result)

    def test_edges(self):
        unit = ((TOP, 0), (0, TOP))
        for bounds in ((0, 0), (TOP, TOP), (5, 7)):
            self.assertEqual(fixed_setting(unit, bounds), bounds)
            self.assertEqual(fixed_setting(((0, 0), (0, 0)), bounds), (0, 0))
        self.assertEqual(fixed_setting(((0, TOP), (TOP, 0)), (5, 7)), (5, 5))
        self.assertEqual(fixed_setting(((4,),), (9,)), (4,))
        self.assertEqual(fixed_setting(((4,),), (3,)), (3,))

    def test_not_square(self):
        for outlets, inlets in SIZES:
            if outlets != inlets:
                for bounds in ((0,) * inlets, (0,) * outlets, None, *ODD_VALUES[:5]):
                    with self.assertRaises(NotSquare):
                        fixed_setting(filled(outlets, inlets), bounds)

    def test_no_setting(self):
        for bounds in NO_SETTINGS:
            with Unchanged(self, bounds), self.assertRaises(NoSetting):
                fixed_setting(W, bounds)


if __name__ == "__main__":
    unittest.main()
