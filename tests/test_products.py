import itertools
import math
import random
import unittest

from tests.helper import ODD_VALUES, Unchanged, W, all_tables, filled, random_levels, same_kinds, slow_levels
from widthmix.errors import NoExponent, NoLevel, NoMatch, NotSquare
from widthmix.limits import MAX_EXPONENT, TOP
from widthmix.products import closure, groups_at, index_and_period, power, product, residual, solve_product
from widthmix.tables import is_table

SIZES = list(itertools.product(range(1, 7), repeat=2))
UNLIKE = [size for size in SIZES if size[0] != size[1]]


def drawn_table(source, outlets, inlets, greatest):
    return tuple(random_levels(source, inlets, greatest) for _ in range(outlets))


def square_tables(seed, many):
    """Square tables of all sizes: few widths and many, and thin ones whose powers take long to repeat."""
    source = random.Random(seed)
    for number in range(many):
        size = 6 if number % 3 == 0 else source.randint(1, 6)
        if number % 2:
            yield drawn_table(source, size, size, source.choice((2, 9, TOP)))
        else:
            widths = (0, 0, 0, 0, source.randint(1, TOP), source.choice((1, TOP)))
            yield tuple(tuple(source.choice(widths) for _ in range(size)) for _ in range(size))


def slow_product(one, other):
    result = []
    for row in one:
        widths = []
        for inlet in range(len(other[0])):
            greatest = 0
            for middle, width in enumerate(row):
                smaller = width if width < other[middle][inlet] else other[middle][inlet]
                greatest = smaller if smaller > greatest else greatest
            widths.append(greatest)
        result.append(tuple(widths))
    return tuple(result)


def unit(size):
    return tuple(tuple(TOP if outlet == inlet else 0 for inlet in range(size)) for outlet in range(size))


def slow_powers(table, many):
    powers = [unit(len(table))]
    while len(powers) < many:
        powers.append(slow_product(powers[-1], table))
    return powers


def cycles(*lengths):
    """The table of a permutation with cycles of these lengths."""
    rows, first = [], 0
    for length in lengths:
        for step in range(length):
            rows.append(tuple(TOP * (inlet == first + (step + 1) % length) for inlet in range(sum(lengths))))
        first += length
    return tuple(rows)


# Of all tables of six outlets with the widths 0 and TOP, the powers of this one take longest to repeat.
SLOWEST = tuple(tuple(TOP * (inlet == outlet + 1 or outlet == 5 and inlet < 2) for inlet in range(6))
                for outlet in range(6))


class ProductTest(unittest.TestCase):
    """Points 3 (d), 38 and 39."""

    def test_small_tables(self):
        for one in all_tables(2, 2, 2):
            for other in all_tables(2, 2, 2):
                self.assertEqual(product(one, other), slow_product(one, other))

    def test_all_sizes(self):
        source = random.Random(71)
        for outlets, middle, inlets in itertools.product(range(1, 7), repeat=3):
            one = drawn_table(source, outlets, middle, source.choice((9, TOP)))
            other = drawn_table(source, middle, inlets, source.choice((9, TOP)))
            with Unchanged(self, one, other):
                result = product(one, other)
                self.assertEqual(product(one, other), result)
            self.assertIs(is_table(result), True)
            self.assertEqual((len(result), len(result[0])), (outlets, inlets))
            self.assertTrue(same_kinds(result, slow_product(one, other)))
            for _ in range(3):
                setting = random_levels(source, inlets, TOP)
                self.assertEqual(slow_levels(result, setting), slow_levels(one, slow_levels(other, setting)))

    def test_order_counts(self):
        self.assertEqual(product(((3, 5),), ((4,), (2,))), ((3,),))
        self.assertEqual(product(((4,), (2,)), ((3, 5),)), ((3, 4), (2, 2)))
        self.assertEqual(product(W, ((0, TOP), (TOP, 0))), ((5, 3), (2, 4)))
        self.assertEqual(product(((0, TOP), (TOP, 0)), W), ((4, 2), (3, 5)))

    def test_units(self):
        source = random.Random(72)
        for outlets, inlets in SIZES:
            table = drawn_table(source, outlets, inlets, TOP)
            self.assertEqual(product(unit(outlets), table), table)
            self.assertEqual(product(table, unit(inlets)), table)

    def test_no_match(self):
        for (outlets, inlets), (more, others) in itertools.product(SIZES, repeat=2):
            if inlets != more:
                with self.assertRaises(NoMatch):
                    product(filled(outlets, inlets), filled(more, others))


class PowerTest(unittest.TestCase):
    """Points 3 (d), 38 and 40."""

    def test_small_exponents_against_repeated_products(self):
        for table in (W, SLOWEST, cycles(1, 2, 3), cycles(5), cycles(6), *square_tables(73, 40)):
            with Unchanged(self, table):
                for exponent, wanted in enumerate(slow_powers(table, 40)):
                    self.assertTrue(same_kinds(power(table, exponent), wanted), (table, exponent))

    def test_exponents_zero_and_one(self):
        for size in range(1, 7):
            self.assertEqual(power(filled(size, size), 0), unit(size))
            self.assertEqual(power(filled(size, size), 1), filled(size, size))
        self.assertEqual(power(((0,),), 0), ((TOP,),))
        self.assertEqual(power(((7,),), 0), ((TOP,),))
        self.assertEqual(power(((7,),), MAX_EXPONENT), ((7,),))

    def test_great_exponents(self):
        source = random.Random(74)
        for table in (W, SLOWEST, cycles(1, 2, 3), cycles(5), cycles(6), *square_tables(75, 60)):
            index, period = index_and_period(table)
            powers = slow_powers(table, index + period)
            for exponent in (MAX_EXPONENT, MAX_EXPONENT - 1, 10 ** 9 + 7, source.randint(100, MAX_EXPONENT)):
                self.assertEqual(power(table, exponent), powers[index + (exponent - index) % period])

    def test_sums_of_exponents(self):
        for number, table in enumerate(square_tables(76, 40)):
            one, other = 10 ** 17 + 31 * number, 3 ** 30 + number
            self.assertEqual(power(table, one + other), product(power(table, one), power(table, other)))

    def test_cycles(self):
        for exponent in (MAX_EXPONENT, MAX_EXPONENT - 1, 10 ** 12 + 1):
            shift = exponent % 6
            wanted = tuple(tuple(TOP * (inlet == (outlet + shift) % 6) for inlet in range(6)) for outlet in range(6))
            self.assertEqual(power(cycles(6), exponent), wanted)

    def test_wrong_exponents(self):
        wrong = [value for value in ODD_VALUES if type(value) is not int or not 0 <= value <= MAX_EXPONENT]
        self.assertEqual(len(wrong), len(ODD_VALUES) - 1)
        for exponent in (*wrong, MAX_EXPONENT + 1, 2 * MAX_EXPONENT, (2,), [2]):
            with Unchanged(self, exponent), self.assertRaises(NoExponent) as caught:
                power(W, exponent)
            self.assertIs(caught.exception.exponent, exponent)

    def test_not_square_comes_first(self):
        for outlets, inlets in UNLIKE:
            for exponent in (0, 1, 2, MAX_EXPONENT, MAX_EXPONENT + 1, -1, True, None, "2"):
                with self.assertRaises(NotSquare):
                    power(filled(outlets, inlets), exponent)


class IndexAndPeriodTest(unittest.TestCase):
    """Point 41."""

    def check(self, table):
        with Unchanged(self, table):
            index, period = index_and_period(table)
            self.assertEqual(index_and_period(table), (index, period))
        self.assertIs(type(index), int)
        self.assertIs(type(period), int)
        # Two equal powers make all later ones repeat, so the first power that comes again decides.
        powers = slow_powers(table, index + period + 1)
        self.assertEqual(powers[index], powers[index + period])
        self.assertEqual(len(set(powers)), index + period)

    def test_small_tables(self):
        for size, greatest in ((1, 4), (2, 3)):
            for table in all_tables(size, size, greatest):
                self.check(table)
                self.check(tuple(tuple(TOP if width == greatest else width for width in row) for row in table))

    def test_tables_of_all_sizes(self):
        for table in square_tables(77, 200):
            self.check(table)

    def test_edges(self):
        for size in range(1, 7):
            self.assertEqual(index_and_period(unit(size)), (0, 1))
            self.assertEqual(index_and_period(((0,) * size,) * size), (1, 1))
            self.assertEqual(index_and_period(((TOP,) * size,) * size), (0 if size == 1 else 1, 1))
        self.assertEqual(index_and_period(((7,),)), (1, 1))
        self.assertEqual(index_and_period(SLOWEST), (26, 1))
        steps = tuple(tuple(7 * (inlet == outlet + 1) for inlet in range(6)) for outlet in range(6))
        self.assertEqual(index_and_period(steps), (6, 1))

    def test_cycles(self):
        for lengths in ((1,), (2,), (3,), (6,), (1, 2, 3), (2, 3), (1, 5), (2, 4), (3, 3), (2, 2, 2), (1, 4)):
            self.assertEqual(index_and_period(cycles(*lengths)), (0, math.lcm(*lengths)))
            narrower = tuple(tuple(min(width, 9) for width in row) for row in cycles(*lengths))
            self.assertEqual(index_and_period(narrower), (1, math.lcm(*lengths)))

    def test_not_square(self):
        for outlets, inlets in UNLIKE:
            for function in (index_and_period, closure):
                with self.assertRaises(NotSquare):
                    function(filled(outlets, inlets))


class ClosureTest(unittest.TestCase):
    """Point 42."""

    def test_against_many_powers(self):
        tables = (SLOWEST, cycles(6), cycles(2, 4), *square_tables(78, 150), *all_tables(2, 2, 3))
        for table in tables:
            wanted = [[0] * len(table) for _ in table]
            for width in slow_powers(table, 30)[1:]:
                wanted = [list(map(max, row, more)) for row, more in zip(wanted, width)]
            with Unchanged(self, table):
                self.assertTrue(same_kinds(closure(table), tuple(map(tuple, wanted))), table)

    def test_edges(self):
        self.assertEqual(closure(((5,),)), ((5,),))
        self.assertEqual(closure(((0,),)), ((0,),))
        self.assertEqual(closure(((0, 0), (0, 0))), ((0, 0), (0, 0)))
        # The power with exponent 0 does not count, and the one with as many as there are outlets does.
        self.assertEqual(closure(((0, 5), (0, 0))), ((0, 5), (0, 0)))
        self.assertEqual(closure(cycles(6)), ((TOP,) * 6,) * 6)
        steps = tuple(tuple(7 * (inlet == outlet + 1) for inlet in range(6)) for outlet in range(6))
        wanted = tuple(tuple(7 * (inlet > outlet) for inlet in range(6)) for outlet in range(6))
        self.assertEqual(closure(steps), wanted)

    def test_narrowest_step_counts(self):
        ring = tuple(tuple((10 + outlet) * (inlet == (outlet + 1) % 6) for inlet in range(6)) for outlet in range(6))
        result = closure(ring)
        self.assertEqual([row[0] for row in result], [10, 11, 12, 13, 14, 15])
        self.assertEqual(result[0], (10,) * 6)
        self.assertEqual(result[5], (15, 10, 10, 10, 10, 10))


class GroupsTest(unittest.TestCase):
    """Point 43."""

    def slow_groups(self, table, level):
        """Groups by walks along widths of at least the level."""
        size = len(table)
        ways = [[False] * size for _ in range(size)]
        for start in range(size):
            waiting = [start]
            while waiting:
                number = waiting.pop()
                for other in range(size):
                    if table[number][other] >= level and not ways[start][other]:
                        ways[start][other] = True
                        waiting.append(other)
        groups = []
        for number in range(size):
            group = tuple(k for k in range(size) if k == number or ways[number][k] and ways[k][number])
            if group not in groups:
                groups.append(group)
        return tuple(groups)

    def test_levels_that_are_widths_or_next_to_them(self):
        for table in (SLOWEST, cycles(1, 2, 3), cycles(2, 4), *square_tables(79, 120), *all_tables(2, 2, 2)):
            widths = {width for row in table for width in row}
            near = {0, 1, TOP, *[width + step for width in widths for step in (-1, 0, 1)]}
            for level in sorted(level for level in near if 0 <= level <= TOP):
                with Unchanged(self, table):
                    found = groups_at(table, level)
                self.assertTrue(same_kinds(found, self.slow_groups(table, level)), (table, level))

    def test_edges(self):
        for size in range(1, 7):
            self.assertEqual(groups_at(((0,) * size,) * size, 0), (tuple(range(size)),))
            self.assertEqual(groups_at(((0,) * size,) * size, 1), tuple((number,) for number in range(size)))
            self.assertEqual(groups_at(((TOP,) * size,) * size, TOP), (tuple(range(size)),))
        self.assertEqual(groups_at(cycles(1, 2, 3), TOP), ((0,), (1, 2), (3, 4, 5)))
        # One way is not enough.
        self.assertEqual(groups_at(((0, 9), (3, 0)), 4), ((0,), (1,)))
        self.assertEqual(groups_at(((0, 9), (3, 0)), 3), ((0, 1),))

    def test_members_apart(self):
        table = [[0] * 6 for _ in range(6)]
        for one, other in ((0, 4), (4, 0), (1, 5), (5, 3), (3, 1)):
            table[one][other] = 8
        table = tuple(map(tuple, table))
        self.assertEqual(groups_at(table, 8), ((0, 4), (1, 3, 5), (2,)))
        self.assertEqual(groups_at(table, 9), ((0,), (1,), (2,), (3,), (4,), (5,)))

    def test_no_level(self):
        for level in (*ODD_VALUES, (4,), [4]):
            with Unchanged(self, level), self.assertRaises(NoLevel) as caught:
                groups_at(W, level)
            self.assertIs(caught.exception.level, level)

    def test_not_square_comes_first(self):
        for outlets, inlets in UNLIKE:
            for level in (0, 4, TOP, -1, TOP + 1, True, None):
                with self.assertRaises(NotSquare):
                    groups_at(filled(outlets, inlets), level)


class EquationTest(unittest.TestCase):
    """Points 44 and 45."""

    def exceeds_nowhere(self, one, other):
        return all(a <= b for row, more in zip(one, other) for a, b in zip(row, more))

    def test_small_tables_against_a_search_of_all_tables(self):
        # Widths above the greatest one of table and target make no difference, so 3 and TOP stand for all of them.
        for outlets, middle, inlets in ((1, 1, 1), (1, 2, 1), (2, 1, 1), (2, 1, 2), (1, 1, 3), (2, 2, 1), (1, 2, 2)):
            rows = list(itertools.product((0, 1, 2, 3, TOP), repeat=inlets))
            tries = list(itertools.product(rows, repeat=middle))
            for number, table in enumerate(all_tables(outlets, middle, 2)):
                products = {tried: slow_product(table, tried) for tried in tries}
                for other, target in enumerate(all_tables(outlets, inlets, 2)):
                    if len(tries) < 100 or (number + other) % 5 == 0:
                        self.check_small(table, target, products)

    def check_small(self, table, target, products):
        fitting = [tried for tried in products if self.exceeds_nowhere(products[tried], target)]
        best = residual(table, target)
        self.assertIn(best, fitting)
        self.assertTrue(all(self.exceeds_nowhere(tried, best) for tried in fitting))
        solving = [tried for tried in fitting if products[tried] == target]
        found = solve_product(table, target)
        if solving:
            self.assertIn(found, solving)
            self.assertTrue(all(self.exceeds_nowhere(tried, found) for tried in solving))
        else:
            self.assertIsNone(found)

    def test_all_sizes(self):
        source = random.Random(80)
        solved = []
        for outlets, middle, inlets in itertools.product(range(1, 7), repeat=3):
            table = drawn_table(source, outlets, middle, source.choice((9, TOP)))
            target = drawn_table(source, outlets, inlets, source.choice((9, TOP)))
            drawn = drawn_table(source, middle, inlets, source.choice((9, TOP)))
            solved.append(self.check(table, target))
            reached = slow_product(table, drawn)
            self.assertIs(self.check(table, reached), True)
            self.assertTrue(self.exceeds_nowhere(drawn, solve_product(table, reached)))
        self.assertEqual(set(solved), {True, False})

    def check(self, table, target):
        """Check both functions, and return whether the equation has a solution."""
        with Unchanged(self, table, target):
            best = residual(table, target)
            found = solve_product(table, target)
            self.assertEqual((residual(table, target), solve_product(table, target)), (best, found))
        self.assertIs(is_table(best), True)
        self.assertEqual((len(best), len(best[0])), (len(table[0]), len(target[0])))
        self.assertTrue(self.exceeds_nowhere(slow_product(table, best), target))
        for outlet, row in enumerate(best):
            for inlet, width in enumerate(row):
                if width < TOP:
                    raised = (*best[:outlet], row[:inlet] + (width + 1,) + row[inlet + 1:], *best[outlet + 1:])
                    self.assertFalse(self.exceeds_nowhere(slow_product(table, raised), target))
        if slow_product(table, best) != target:
            self.assertIsNone(found)
            return False
        self.assertEqual(found, best)
        return True

    def test_edges(self):
        self.assertEqual(residual(((5,),), ((5,),)), ((TOP,),))
        self.assertEqual(residual(((5,),), ((4,),)), ((4,),))
        self.assertEqual(residual(((5,),), ((6,),)), ((TOP,),))
        self.assertEqual(solve_product(((5,),), ((5,),)), ((TOP,),))
        self.assertIsNone(solve_product(((5,),), ((6,),)))
        self.assertEqual(residual(((0,),), ((0, TOP),)), ((TOP, TOP),))
        self.assertEqual(residual(((TOP,) * 6,) * 6, ((0,) * 6,) * 6), ((0,) * 6,) * 6)
        self.assertEqual(solve_product(W, W), residual(W, W))
        self.assertEqual(product(W, solve_product(W, W)), W)
        self.assertEqual(solve_product(unit(6), filled(6, 6)), filled(6, 6))

    def test_no_match(self):
        for (outlets, inlets), (more, others) in itertools.product(SIZES, repeat=2):
            if outlets != more:
                for function in (residual, solve_product):
                    with self.assertRaises(NoMatch):
                        function(filled(outlets, inlets), filled(more, others))


if __name__ == "__main__":
    unittest.main()
