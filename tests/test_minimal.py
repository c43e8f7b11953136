import inspect
import itertools
import random
import unittest

from tests.helper import (
    ODD_VALUES, Unchanged, W, crowded_tables, is_below, minimal_of, random_tables, same_kinds, slow_cells, slow_count,
    slow_evidence, slow_index, slow_levels, slow_minimal, slow_solutions, small_cases, with_one_part_changed,
)
from widthmix.errors import NoIndex, NoInlet, NoSetting, NoSolution
from widthmix.limits import TOP
from widthmix.minimal import (
    count_solutions, inlet_range, is_minimal, minimal_solutions, solution_at, solution_index, walk_solutions,
)
from widthmix.solutions import find_evidence, greatest_solution, is_evidence

# No solution, for several reasons: W, too narrow, held down by another outlet, want above all widths.
UNSOLVABLE = ((W, (4, 1)), (((5,),), (6,)), (((5,), (5,)), (5, 4)), (((3, 5),), (TOP,)), (((0,),), (1,)))
BIG = 10 ** 100 - 1


def bounded_cases(seed, many):
    """Tables whose first outlet keeps every level of a solution below a small want, so that all can be listed."""
    source = random.Random(seed)
    for _ in range(many):
        inlets, most = source.choice(((1, 6), (2, 5), (3, 3), (4, 2)))
        table = tuple(tuple(source.randint(0, most) for _ in range(inlets)) for _ in range(source.randint(0, 3)))
        setting = tuple(source.randint(0, most) for _ in range(inlets))
        table = ((TOP,) * inlets, *table)
        yield table, slow_levels(table, setting), most


def all_solutions(table, wants, most):
    settings = itertools.product(range(most + 1), repeat=len(table[0]))
    return [setting for setting in settings if slow_levels(table, setting) == wants]


def lowered_ones(setting):
    for inlet, level in enumerate(setting):
        if level > 0:
            for lower in (level - 1, level // 2, 0):
                yield setting[:inlet] + (lower,) + setting[inlet + 1:]


class SearchTest(unittest.TestCase):
    """Points 3 (b) and 21 to 27, against a search of all settings."""

    def test_small_tables(self):
        for table, wants, greatest in small_cases():
            solutions = slow_solutions(table, wants, greatest + 1)
            if solutions:
                self.check_minimal(table, wants, solutions)
                self.check_ranges(table, wants, solutions)
            else:
                self.check_not_reached(table, wants)

    def check_minimal(self, table, wants, solutions):
        found = minimal_solutions(table, wants)
        self.assertTrue(same_kinds(found, tuple(minimal_of(solutions))), (table, wants, found))

    def check_ranges(self, table, wants, solutions):
        for inlet in range(len(table[0])):
            levels = [setting[inlet] for setting in solutions]
            self.assertTrue(same_kinds(inlet_range(table, wants, inlet), (min(levels), max(levels))))

    def check_not_reached(self, table, wants):
        evidence = slow_evidence(table, wants)
        for call in (lambda: minimal_solutions(table, wants), lambda: inlet_range(table, wants, 0),
                     lambda: solution_at(table, wants, 0), lambda: solution_index(table, wants, (0,) * len(table[0]))):
            with self.assertRaises(NoSolution) as caught:
                call()
            self.assertIn(caught.exception.evidence, evidence)
        self.assertEqual(count_solutions(table, wants), 0)
        self.assertEqual(list(walk_solutions(table, wants)), [])

    def test_is_minimal_on_small_tables(self):
        for table, wants, greatest in small_cases():
            minimal = minimal_of(slow_solutions(table, wants, greatest + 1))
            for setting in itertools.product((*range(greatest + 3), TOP), repeat=len(table[0])):
                self.assertIs(is_minimal(table, wants, setting), setting in minimal, (table, wants, setting))

    def test_solutions_lie_between_a_minimal_one_and_the_greatest(self):
        for table, wants, greatest in small_cases():
            if find_evidence(table, wants):
                continue
            minimal, upper = minimal_solutions(table, wants), greatest_solution(table, wants)
            for setting in itertools.product((*range(greatest + 3), TOP), repeat=len(table[0])):
                between = is_below(setting, upper) and any(is_below(least, setting) for least in minimal)
                self.assertIs(between, slow_levels(table, setting) == wants)

    def test_counts_and_indexes_of_small_tables(self):
        for number, (table, wants, _) in enumerate(small_cases()):
            cells = slow_cells(table, wants)
            many = count_solutions(table, wants)
            self.assertEqual(many, slow_count(cells), (table, wants))
            if many:
                for index in {0, many - 1, many // 2, number * 12345678901 % many, number % many}:
                    setting = solution_at(table, wants, index)
                    self.assertEqual(slow_levels(table, setting), wants)
                    self.assertEqual(slow_index(cells, setting), index)
                    self.assertEqual(solution_index(table, wants, setting), index)

    def test_all_solutions_listed(self):
        for table, wants, most in bounded_cases(11, 250):
            solutions = all_solutions(table, wants, most)
            self.assertEqual(count_solutions(table, wants), len(solutions))
            self.assertEqual([solution_at(table, wants, index) for index in range(len(solutions))], solutions)
            self.assertEqual([solution_index(table, wants, setting) for setting in solutions], [*range(len(solutions))])
            self.assertEqual(list(walk_solutions(table, wants, most=100)), solutions[:100])
            self.assertEqual(list(minimal_solutions(table, wants)), minimal_of(solutions))
            for inlet in range(len(table[0])):
                # Every integer between the least and the greatest level occurs.
                levels = sorted({setting[inlet] for setting in solutions})
                self.assertEqual(levels, list(range(levels[0], levels[-1] + 1)))
                self.assertEqual(inlet_range(table, wants, inlet), (levels[0], levels[-1]))


class LargeTableTest(unittest.TestCase):
    """Points 3 (b) and 21 to 28 on tables of up to six outlets and six inlets with levels up to TOP."""

    def test_random_tables(self):
        reached = 0
        for table, wants in (*random_tables(21, 150), *random_tables(22, 350, TOP)):
            if find_evidence(table, wants):
                self.check_not_reached(table, wants)
            else:
                reached += 1
                self.check(table, wants)
        self.assertTrue(150 < reached < 450, reached)

    def test_many_minimal_solutions(self):
        sizes = []
        for distinct in (1, 2, 3):
            for table, wants in crowded_tables(distinct, 12, distinct):
                self.check(table, wants)
                found = minimal_solutions(table, wants)
                self.assertEqual(list(found), slow_minimal(table, wants))
                sizes.append(len(found))
        self.assertGreater(max(sizes), 10)

    def test_most_minimal_solutions_known(self):
        shape = ("000101", "110100", "110011", "001110", "111101", "111111")
        wants = (2, 2, 4, 4, 7, TOP)
        table = tuple(tuple(want * int(mark) for mark in row) for row, want in zip(shape, wants))
        self.assertEqual(len(minimal_solutions(table, wants)), 42)
        self.assertEqual(list(minimal_solutions(table, wants)), slow_minimal(table, wants))
        self.check(table, wants)

    def test_six_different_wants(self):
        wants = (1, 10, 100, TOP // 2, TOP - 1, TOP)
        shape = ("111001", "110010", "110111", "001111", "011110", "111111")
        table = tuple(tuple(want * int(mark) for mark in row) for row, want in zip(shape, wants))
        self.assertEqual(list(minimal_solutions(table, wants)), slow_minimal(table, wants))
        self.check(table, wants)

    def test_any_two_inlets(self):
        # Outlet k is served by every inlet but k, so any two inlets are needed and enough.
        table = tuple(tuple(0 if outlet == inlet else TOP for inlet in range(6)) for outlet in range(6))
        for want in (1, TOP // 3, TOP):
            pairs = itertools.combinations(range(6), 2)
            wanted = sorted(tuple(want * (inlet in pair) for inlet in range(6)) for pair in pairs)
            self.assertEqual(list(minimal_solutions(table, (want,) * 6)), wanted)

    def test_counts_of_large_tables(self):
        for distinct in (1, 2):
            for table, wants in crowded_tables(30 + distinct, 4, distinct):
                cells = slow_cells(table, wants)
                many = count_solutions(table, wants)
                self.assertEqual(many, slow_count(cells))
                for index in (0, many // 3, many // 2, many - 1):
                    self.assertEqual(slow_index(cells, solution_at(table, wants, index)), index)

    def check(self, table, wants):
        with Unchanged(self, table, wants):
            self.check_minimal(table, wants)
            self.check_indexes(table, wants)
            self.check_ranges(table, wants)

    def check_minimal(self, table, wants):
        found = minimal_solutions(table, wants)
        self.assertEqual(found, tuple(sorted(set(found))))
        self.assertEqual(minimal_of(found), list(found))
        for setting in found:
            self.assertEqual(slow_levels(table, setting), wants)
            self.assertIs(is_minimal(table, wants, setting), True)
            for lower in lowered_ones(setting):
                self.assertNotEqual(slow_levels(table, lower), wants)
                self.assertIs(is_minimal(table, wants, lower), False)
        upper = greatest_solution(table, wants)
        self.assertIs(is_minimal(table, wants, upper), upper in found)

    def check_indexes(self, table, wants):
        many = count_solutions(table, wants)
        self.assertEqual(solution_index(table, wants, greatest_solution(table, wants)), many - 1)
        source = random.Random(many)
        drawn = sorted({0, many - 1, many // 2, *[source.randrange(many) for _ in range(4)]})
        settings = [solution_at(table, wants, index) for index in drawn]
        self.assertEqual(settings, sorted(set(settings)))
        self.assertIn(settings[0], minimal_solutions(table, wants))
        for index, setting in zip(drawn, settings):
            self.assertEqual(slow_levels(table, setting), wants)
            self.assertTrue(any(is_below(least, setting) for least in minimal_solutions(table, wants)))
            self.assertEqual(solution_index(table, wants, setting), index)
        for index in (many, many + 1, BIG, -1):
            with self.assertRaises(NoIndex):
                solution_at(table, wants, index)

    def check_ranges(self, table, wants):
        found, upper = minimal_solutions(table, wants), greatest_solution(table, wants)
        for inlet in range(len(upper)):
            self.assertEqual(inlet_range(table, wants, inlet), (min(least[inlet] for least in found), upper[inlet]))

    def check_not_reached(self, table, wants):
        for function in (minimal_solutions, greatest_solution):
            with self.assertRaises(NoSolution) as caught:
                function(table, wants)
            self.assertIs(is_evidence(table, wants, caught.exception.evidence), True)
        self.assertEqual(count_solutions(table, wants), 0)
        self.assertIs(is_minimal(table, wants, (0,) * len(table[0])), False)
        self.assertEqual(list(walk_solutions(table, wants)), [])


class MinimalTest(unittest.TestCase):
    """Points 21 to 23."""

    def test_edges(self):
        self.assertEqual(minimal_solutions(((3, 5),), (5,)), ((0, 5),))
        self.assertEqual(minimal_solutions(((3, 5),), (3,)), ((0, 3), (3, 0)))
        self.assertEqual(minimal_solutions(((TOP,),), (TOP,)), ((TOP,),))
        self.assertEqual(minimal_solutions(((5, 5), (5, 5)), (5, 5)), ((0, 5), (5, 0)))
        # One inlet for both outlets, or one for each.
        self.assertEqual(minimal_solutions(((2, 2, 0), (0, 2, 2)), (2, 2)), ((0, 2, 0), (2, 0, 2)))
        # The second inlet is held down to 1, so it cannot serve the first outlet.
        self.assertEqual(minimal_solutions(((4, 4), (1, 4)), (4, 1)), ((4, 0),))

    def test_wants_of_zero(self):
        for table in (W, ((0,),), ((TOP,),), ((0, TOP), (1, 0), (5, 5))):
            wants = (0,) * len(table)
            zeros = (0,) * len(table[0])
            self.assertEqual(minimal_solutions(table, wants), (zeros,))
            self.assertIs(is_minimal(table, wants, zeros), True)
            for inlet in range(len(zeros)):
                self.assertEqual(inlet_range(table, wants, inlet)[0], 0)
            self.assertEqual(solution_index(table, wants, zeros), 0)
            self.assertEqual(solution_at(table, wants, 0), zeros)
        self.assertEqual(count_solutions(W, (0, 0)), 1)
        self.assertEqual(count_solutions(((0,),), (0,)), TOP + 1)
        self.assertEqual(count_solutions(((0, TOP), (0, 0)), (0, 0)), TOP + 1)
        # A want of 0 beside another one only holds inlets down.
        self.assertEqual(minimal_solutions(((3, 5), (0, 2)), (3, 0)), ((3, 0),))

    def test_no_minimal_solutions(self):
        self.assertIs(is_minimal(W, (3, 4), (4, 0)), True)
        for value in ([4, 0], (4,), (4, 0, 0), (4, False), (4, -1), (4, 1), (5, 0), (3, 0), (4, 4), (4, None), ("4", 0),
                      ((4, 0),), *ODD_VALUES):
            with Unchanged(self, value):
                self.assertIs(is_minimal(W, (3, 4), value), False, value)
        for value in ((True, 0), (1, False), (True, False), (1, 1)):
            self.assertIs(is_minimal(((1, 1),), (1,), value), False, value)

    def test_one_part_changed(self):
        for value in with_one_part_changed((4, 0), (*ODD_VALUES, 0, 1, 3, 4, 5, TOP)):
            with Unchanged(self, value):
                self.assertIs(is_minimal(W, (3, 4), value), repr(value) == "(4, 0)", value)

    def test_no_solution(self):
        for table, wants in UNSOLVABLE:
            with self.assertRaises(NoSolution) as caught:
                minimal_solutions(table, wants)
            self.assertIn(caught.exception.evidence, slow_evidence(table, wants))
            for value in (*ODD_VALUES, (0,) * len(table[0]), (TOP,) * len(table[0])):
                self.assertIs(is_minimal(table, wants, value), False)


class InletRangeTest(unittest.TestCase):
    """Point 24."""

    def test_edges(self):
        self.assertEqual(inlet_range(W, (3, 4), 0), (4, TOP))
        self.assertEqual(inlet_range(W, (3, 4), 1), (0, 3))
        self.assertEqual(inlet_range(((3, 5),), (5,), 1), (5, TOP))
        self.assertEqual(inlet_range(((3, 5),), (4,), 1), (4, 4))
        self.assertEqual(inlet_range(((0, 5),), (5,), 0), (0, TOP))
        # The greatest of several wants that only this inlet can serve.
        self.assertEqual(inlet_range(((2, 0), (5, 0), (0, 3)), (2, 5, 3), 0), (5, TOP))

    def test_wrong_inlets(self):
        for number in (*ODD_VALUES, 2, 3, 6, (0,), [0]):
            for wants in ((3, 4), (4, 1)):
                with Unchanged(self, number), self.assertRaises(NoInlet) as caught:
                    inlet_range(W, wants, number)
                self.assertIs(caught.exception.inlet, number)
        with self.assertRaises(NoInlet):
            inlet_range(((1,), (2,)), (1, 2), 1)
        self.assertEqual(inlet_range(((1, 2),), (2,), 1), (2, TOP))

    def test_no_solution(self):
        for table, wants in UNSOLVABLE:
            with self.assertRaises(NoSolution) as caught:
                inlet_range(table, wants, 0)
            self.assertIn(caught.exception.evidence, slow_evidence(table, wants))


class CountTest(unittest.TestCase):
    """Point 25."""

    def test_edges(self):
        self.assertEqual(count_solutions(W, (3, 4)), 4 * (TOP - 3))
        self.assertEqual(count_solutions(((TOP,),), (TOP,)), 1)
        self.assertEqual(count_solutions(((TOP,),), (7,)), 1)
        self.assertEqual(count_solutions(((7,),), (7,)), TOP - 6)
        self.assertEqual(count_solutions(((0,) * 6,) * 6, (0,) * 6), (TOP + 1) ** 6)
        self.assertEqual(count_solutions(((TOP,) * 6,), (1,)), 2 ** 6 - 1)
        self.assertEqual(count_solutions(((1,) * 6,), (1,)), (TOP + 1) ** 6 - 1)
        for table, wants in UNSOLVABLE:
            self.assertIs(type(count_solutions(table, wants)), int)
            self.assertEqual(count_solutions(table, wants), 0)

    def test_inlet_of_zeros(self):
        for number, (table, wants) in enumerate(random_tables(23, 120)):
            if len(table[0]) < 6:
                at = number % (len(table[0]) + 1)
                wider = tuple(row[:at] + (0,) + row[at:] for row in table)
                self.assertEqual(count_solutions(wider, wants), (TOP + 1) * count_solutions(table, wants))

    def test_copies_of_an_outlet(self):
        for table, wants in random_tables(24, 120):
            if len(table) < 6:
                doubled = (*table, table[0]), (*wants, wants[0])
                self.assertEqual(count_solutions(*doubled), count_solutions(table, wants))


class IndexTest(unittest.TestCase):
    """Points 26 and 27."""

    def test_edges(self):
        self.assertEqual(solution_at(W, (3, 4), 0), (4, 0))
        self.assertEqual(solution_at(W, (3, 4), 4), (5, 0))
        self.assertEqual(solution_at(W, (3, 4), 4 * (TOP - 3) - 1), (TOP, 3))
        self.assertEqual(solution_index(W, (3, 4), (4, 0)), 0)
        self.assertEqual(solution_index(W, (3, 4), (TOP, 3)), 4 * (TOP - 3) - 1)
        self.assertEqual(solution_at(((0,) * 6,), (0,), (TOP + 1) ** 6 - 1), (TOP,) * 6)
        self.assertEqual(solution_at(((0,) * 6,), (0,), TOP + 1), (0, 0, 0, 0, 1, 0))

    def test_wrong_indexes(self):
        table, wants = ((3, 5), (4, 2), (0, TOP)), (3, 4, 3)
        many = count_solutions(table, wants)
        self.assertEqual(many, TOP - 3)
        for index in (*ODD_VALUES, many, many + 1, many * 2, (0,), [0]):
            with Unchanged(self, index), self.assertRaises(NoIndex) as caught:
                solution_at(table, wants, index)
            self.assertIs(caught.exception.index, index)
        self.assertEqual(solution_at(table, wants, many - 1), (TOP, 3))

    def test_no_solution_comes_first(self):
        for table, wants in UNSOLVABLE:
            for value in (*ODD_VALUES, 0, 1, (0,) * len(table[0])):
                for function in (solution_at, solution_index):
                    with self.assertRaises(NoSolution) as caught:
                        function(table, wants, value)
                    self.assertIn(caught.exception.evidence, slow_evidence(table, wants))

    def test_no_settings(self):
        for value in ([4, 0], (4,), (4, 0, 0), (4, False), (4, -1), (3, 0), (4, 4), (TOP + 1, 0), (4, None), ("4", 0),
                      ((4, 0),), 0, *ODD_VALUES):
            with Unchanged(self, value), self.assertRaises(NoSetting):
                solution_index(W, (3, 4), value)
        for value in ((True, 0), (1, False)):
            with self.assertRaises(NoSetting):
                solution_index(((1, 1),), (1,), value)

    def test_one_part_changed(self):
        for value in with_one_part_changed((5, 1), (*ODD_VALUES, 0, 2, 3, 4, TOP)):
            plain = isinstance(value, tuple) and len(value) == 2
            plain = plain and all(type(level) is int and 0 <= level <= TOP for level in value)
            if plain and slow_levels(W, value) == (3, 4):
                self.assertEqual(solution_index(W, (3, 4), value), (value[0] - 4) * 4 + value[1])
            else:
                with Unchanged(self, value), self.assertRaises(NoSetting):
                    solution_index(W, (3, 4), value)


class WalkTest(unittest.TestCase):
    """Point 28."""

    def test_is_a_generator(self):
        self.assertTrue(inspect.isgeneratorfunction(walk_solutions))
        self.assertEqual(next(walk_solutions(W, (3, 4), first=5)), (5, 1))
        with self.assertRaises(TypeError):
            walk_solutions(W, (3, 4), 5)

    def test_first_and_most(self):
        many = count_solutions(W, (3, 4))
        for first in (0, 1, 3, 10 ** 9, many - 101, many - 100, many - 21, many - 20, many - 2, many - 1):
            for most in (0, 1, 2, 20, 99, 100):
                wanted = [solution_at(W, (3, 4), index) for index in range(first, min(first + most, many))]
                self.assertEqual(list(walk_solutions(W, (3, 4), first=first, most=most)), wanted)

    def test_defaults(self):
        wanted = [solution_at(W, (3, 4), index) for index in range(120)]
        self.assertEqual(list(walk_solutions(W, (3, 4))), wanted[:20])
        self.assertEqual(list(walk_solutions(W, (3, 4), first=7)), wanted[7:27])
        self.assertEqual(list(walk_solutions(W, (3, 4), most=100)), wanted[:100])
        self.assertEqual(list(walk_solutions(W, (3, 4), most=0)), [])

    def test_first_beyond_the_last_index(self):
        many = count_solutions(W, (3, 4))
        for first in (many, many + 1, many * 2, BIG):
            for most in (0, 1, 20, 100):
                self.assertEqual(list(walk_solutions(W, (3, 4), first=first, most=most)), [])

    def test_somewhat_beyond_the_limits(self):
        self.assertEqual(list(walk_solutions(W, (3, 4), first=-1)), [])
        self.assertEqual(list(walk_solutions(W, (3, 4), most=-1)), [])
        self.assertEqual(len(list(walk_solutions(W, (3, 4), most=101))), 101)

    def test_no_solution(self):
        for table, wants in UNSOLVABLE:
            for first in (0, 1, TOP):
                for most in (0, 1, 20, 100):
                    self.assertEqual(list(walk_solutions(table, wants, first=first, most=most)), [])

    def test_large_tables(self):
        for table, wants in (*crowded_tables(41, 3, 2), *crowded_tables(42, 3, 6)):
            many = count_solutions(table, wants)
            for first, most in ((0, 20), (many // 2, 100), (many - 7, 20)):
                with Unchanged(self, table, wants):
                    found = list(walk_solutions(table, wants, first=first, most=most))
                self.assertEqual(len(found), min(most, many - first))
                self.assertEqual(found, sorted(set(found)))
                for at in (0, len(found) // 2, -1):
                    self.assertEqual(slow_levels(table, found[at]), wants)
                    self.assertEqual(found[at], solution_at(table, wants, first + at % len(found)))


class RepeatTest(unittest.TestCase):
    """Point 2."""

    def test_same_call_same_result(self):
        for table, wants in crowded_tables(43, 10, 3):
            with Unchanged(self, table, wants):
                for function in (minimal_solutions, count_solutions):
                    self.assertEqual(function(table, wants), function(table, wants))
                for _ in range(2):
                    self.assertEqual(solution_index(table, wants, solution_at(table, wants, 5)), 5)
                    self.assertEqual(inlet_range(table, wants, 3), inlet_range(table, wants, 3))


if __name__ == "__main__":
    unittest.main()
