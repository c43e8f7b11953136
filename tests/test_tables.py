import copy
import itertools
import unittest

from tests.helper import (
    ODD_VALUES, Unchanged, W, all_tables, filled, random_tables, slow_levels, with_one_part_changed,
)
from widthmix.errors import LastInlet, LastOutlet, NoInlet, NoLevel, NoOutlet, NoSetting
from widthmix.limits import TOP
from widthmix.tables import cut_at, is_table, levels_of, remove_inlet, remove_outlet, turned

SIZES = list(itertools.product(range(1, 7), repeat=2))


def slow_is_table(value):
    if type(value) is not tuple or any(type(row) is not tuple for row in value):
        return False
    sizes = {len(row) for row in value}
    widths = [width for row in value for width in row]
    plain = all(type(width) is int and 0 <= width <= TOP for width in widths)
    return plain and len(value) in range(1, 7) and len(sizes) == 1 and max(sizes) in range(1, 7)


class IsTableTest(unittest.TestCase):
    """Points 2, 5 and 6."""

    def test_all_sizes(self):
        for outlets in range(9):
            for inlets in range(9):
                expected = 1 <= outlets <= 6 and 1 <= inlets <= 6
                self.assertIs(is_table(((1,) * inlets,) * outlets), expected, (outlets, inlets))
        for outlets, inlets in SIZES:
            self.assertIs(is_table(filled(outlets, inlets)), True)

    def test_far_too_large(self):
        self.assertIs(is_table(((0,) * 1999,)), False)
        self.assertIs(is_table(((0,),) * 999), False)

    def test_rows_of_unlike_lengths(self):
        for table in (((3, 5), (4,)), ((3,), (4, 2)), ((3, 5), (4, 2, 1)), ((3, 5), ()), ((), (3, 5)), ((1,), (2,), ())):
            self.assertIs(is_table(table), False, table)

    def test_lists_and_dicts_in_place_of_tuples(self):
        for value in ([(3, 5), (4, 2)], ((3, 5), [4, 2]), ([3, 5], (4, 2)), [[3, 5], [4, 2]],
                      {0: (3, 5), 1: (4, 2)}, ((3, 5), {4: 2, 2: 4}), ("35", "42"), ((3, 5), "42")):
            self.assertIs(is_table(value), False, value)

    def test_levels(self):
        for width in (0, 1, TOP - 1, TOP):
            self.assertIs(is_table(((width,),)), True)
            self.assertIs(is_table(((3, 5), (4, width))), True)
        for width in (-1, -TOP, TOP + 1, 10 ** 100 - 1, True, False, None, "3", (3,), [3], {}):
            self.assertIs(is_table(((width,),)), False, width)
            for at in range(4):
                parts = [3, 5, 4, 2]
                parts[at] = width
                self.assertIs(is_table((tuple(parts[:2]), tuple(parts[2:]))), False, (at, width))

    def test_one_part_changed(self):
        for value in with_one_part_changed(W, (*ODD_VALUES, 0, 6, TOP, (3, 5), (3, 5, 1), [3, 5])):
            with Unchanged(self, value):
                self.assertIs(is_table(value), slow_is_table(value), value)

    def test_odd_values(self):
        for value in ODD_VALUES:
            with Unchanged(self, value):
                self.assertIs(is_table(value), False, value)
            self.assertIs(is_table((value,)), False, value)
            self.assertIs(is_table(((value,),)), False, value)
            self.assertIs(is_table(((3, 5), value)), False, value)
            self.assertIs(is_table(((3, 5), (4, value))), False, value)


class LevelsOfTest(unittest.TestCase):
    """Points 5 and 7."""

    def test_small_tables(self):
        for outlets, inlets in ((1, 1), (1, 2), (2, 1), (2, 2)):
            for table in all_tables(outlets, inlets, 2):
                for setting in itertools.product((0, 1, 2, 3, TOP), repeat=inlets):
                    self.assertEqual(levels_of(table, setting), slow_levels(table, setting))

    def test_all_sizes(self):
        for outlets, inlets in SIZES:
            table = filled(outlets, inlets)
            self.assertEqual(levels_of(table, (0,) * inlets), (0,) * outlets)
            self.assertEqual(levels_of(table, (TOP,) * inlets), tuple(max(row) for row in table))
            for level in range(60):
                setting = tuple((level + 7 * inlet) % 60 for inlet in range(inlets))
                self.assertEqual(levels_of(table, setting), slow_levels(table, setting))

    def test_edges(self):
        self.assertEqual(levels_of(((TOP,),), (TOP,)), (TOP,))
        self.assertEqual(levels_of(((TOP,),), (TOP - 1,)), (TOP - 1,))
        self.assertEqual(levels_of(((0,),), (TOP,)), (0,))
        self.assertEqual(levels_of(((5,),), (4,)), (4,))
        self.assertEqual(levels_of(((5,),), (5,)), (5,))
        self.assertEqual(levels_of(((5,),), (6,)), (5,))

    def test_no_setting(self):
        wrong = [(4,), (4, 1, 0), [4, 1], (True, 1), (4, False), (-1, 1), (4, TOP + 1), (4, None), (4, "1"), ((4,), 1),
                 {0: 4, 1: 1}, *ODD_VALUES]
        for setting in wrong:
            with Unchanged(self, setting), self.assertRaises(NoSetting):
                levels_of(W, setting)

    def test_number_of_inlets_counts(self):
        self.assertEqual(levels_of(((3, 5, 1),), (1, 2, 3)), (2,))
        for setting in ((1,), (1, 2), (1, 2, 3, 4)):
            with self.assertRaises(NoSetting):
                levels_of(((3, 5, 1),), setting)


class TurnedTest(unittest.TestCase):
    """Point 8."""

    def test_all_sizes(self):
        for outlets, inlets in SIZES:
            table = filled(outlets, inlets)
            result = turned(table)
            self.assertIs(is_table(result), True)
            self.assertEqual((len(result), len(result[0])), (inlets, outlets))
            for i in range(outlets):
                for j in range(inlets):
                    self.assertEqual(result[j][i], table[i][j])
            self.assertEqual(turned(result), table)

    def test_edges(self):
        self.assertEqual(turned(((7,),)), ((7,),))
        self.assertEqual(turned(((0, TOP, 1),)), ((0,), (TOP,), (1,)))


class CutAtTest(unittest.TestCase):
    """Point 9."""

    def test_levels_that_are_widths_or_next_to_them(self):
        for table, _ in random_tables(1, 50):
            widths = {width for row in table for width in row}
            near = {0, 1, TOP - 1, TOP, *[width + step for width in widths for step in (-1, 0, 1)]}
            for level in sorted(near & set(range(12)) | {TOP - 1, TOP}):
                expected = tuple(tuple((0, TOP)[width >= level] for width in row) for row in table)
                self.assertEqual(cut_at(table, level), expected)

    def test_edges(self):
        self.assertEqual(cut_at(W, 0), ((TOP, TOP), (TOP, TOP)))
        self.assertEqual(cut_at(W, 5), ((0, TOP), (0, 0)))
        self.assertEqual(cut_at(W, 6), ((0, 0), (0, 0)))
        self.assertEqual(cut_at(((TOP, TOP - 1),), TOP), ((TOP, 0),))
        self.assertEqual(cut_at(((0,),), 0), ((TOP,),))
        self.assertEqual(cut_at(((0,),), 1), ((0,),))

    def test_no_level(self):
        for level in (*ODD_VALUES, (4,), [4]):
            with Unchanged(self, level), self.assertRaises(NoLevel) as caught:
                cut_at(W, level)
            self.assertIs(caught.exception.level, level)


class RemoveTest(unittest.TestCase):
    """Point 10."""

    def test_all_sizes(self):
        for outlets, inlets in SIZES:
            table = filled(outlets, inlets)
            for outlet in range(outlets if outlets > 1 else 0):
                kept = [i for i in range(outlets) if i != outlet]
                self.assertEqual(remove_outlet(table, outlet), tuple(table[i] for i in kept))
            for inlet in range(inlets if inlets > 1 else 0):
                kept = [j for j in range(inlets) if j != inlet]
                self.assertEqual(remove_inlet(table, inlet), tuple(tuple(row[j] for j in kept) for row in table))

    def test_edges(self):
        self.assertEqual(remove_outlet(W, 0), ((4, 2),))
        self.assertEqual(remove_outlet(W, 1), ((3, 5),))
        self.assertEqual(remove_inlet(W, 0), ((5,), (2,)))
        self.assertEqual(remove_inlet(W, 1), ((3,), (4,)))

    def test_last_one(self):
        for inlets in range(1, 7):
            with self.assertRaises(LastOutlet):
                remove_outlet(filled(1, inlets), 0)
            with self.assertRaises(LastInlet):
                remove_inlet(turned(filled(1, inlets)), 0)

    def test_wrong_numbers(self):
        for outlets, inlets in ((1, 1), (2, 2), (2, 3), (3, 2), (6, 6), (1, 6), (6, 1)):
            table = filled(outlets, inlets)
            for number in (*ODD_VALUES, (0,), [0], outlets, outlets + 1, 6, 7):
                with Unchanged(self, number), self.assertRaises(NoOutlet) as caught:
                    remove_outlet(table, number)
                self.assertIs(caught.exception.outlet, number)
            for number in (*ODD_VALUES, (0,), [0], inlets, inlets + 1, 6, 7):
                with Unchanged(self, number), self.assertRaises(NoInlet) as caught:
                    remove_inlet(table, number)
                self.assertIs(caught.exception.inlet, number)

    def test_number_is_checked_before_the_last_one(self):
        for number in (1, -1, False, None):
            with self.assertRaises(NoOutlet):
                remove_outlet(((1, 2),), number)
            with self.assertRaises(NoInlet):
                remove_inlet(((1,), (2,)), number)


class UnchangedArgumentsTest(unittest.TestCase):
    """Point 2."""

    def test_results_are_tables_and_repeat(self):
        calls = ((turned, ()), (cut_at, (4,)), (remove_outlet, (1,)), (remove_inlet, (0,)))
        for function, rest in calls:
            table = copy.deepcopy(W)
            with Unchanged(self, table):
                first = function(table, *rest)
                self.assertEqual(function(table, *rest), first)
            self.assertIs(is_table(first), True)


if __name__ == "__main__":
    unittest.main()
