import itertools
import random
import unittest

from tests.helper import (
    ODD_VALUES, Unchanged, W, crowded_tables, random_tables, slow_cells, slow_evidence, slow_levels, small_cases,
)
from widthmix.costs import cheapest_solution, cost_of
from widthmix.errors import NoPrices, NoSetting, NoSolution
from widthmix.limits import MAX_PRICE, TOP
from widthmix.minimal import minimal_solutions
from widthmix.solutions import find_evidence, greatest_solution, is_evidence

NO_PRICES = (
    (1,), (1, 1, 1), [1, -1], (True, 1), (1, False), (MAX_PRICE + 1, 0), (0, MAX_PRICE + 1), (-MAX_PRICE - 1, 0),
    (0, -MAX_PRICE - 1), (1, None), (1, "1"), ((1,), 1), (1, [1]), {0: 1, 1: 1}, *ODD_VALUES,
)
NO_SETTINGS = ((4,), (4, 3, 0), [4, 3], (True, 3), (4, False), (-1, 3), (4, TOP + 1), (4, None), *ODD_VALUES)


def slow_cost(setting, prices):
    cost = 0
    for inlet, price in enumerate(prices):
        cost += price * setting[inlet]
    return cost


def slow_lowest_cost(cells, prices):
    """The lowest cost of all solutions: of levels with the same effect, the first or the last one is the cheapest."""
    corners = [[(level, level + many - 1)[price < 0] for (level, many), price in zip(cell, prices)] for cell in cells]
    return min(slow_cost(setting, prices) for setting in corners)


def random_prices(source, many):
    ends = (-MAX_PRICE, -1, 0, 1, MAX_PRICE)
    return tuple(source.choice((*ends, source.randint(-MAX_PRICE, MAX_PRICE))) for _ in range(many))


class CostOfTest(unittest.TestCase):
    """Points 29 and 30."""

    def test_small_tables(self):
        for setting in itertools.product((0, 1, 4, TOP), repeat=2):
            for prices in itertools.product((-MAX_PRICE, -3, 0, 1, 7, MAX_PRICE), repeat=2):
                with Unchanged(self, setting, prices):
                    cost = cost_of(W, setting, prices)
                self.assertIs(type(cost), int)
                self.assertEqual(cost, slow_cost(setting, prices))

    def test_edges(self):
        self.assertEqual(cost_of(((0,),), (0,), (5,)), 0)
        self.assertEqual(cost_of(((0,),), (5,), (0,)), 0)
        self.assertEqual(cost_of(((1,) * 6,) * 6, (TOP,) * 6, (MAX_PRICE,) * 6), 6 * 10 ** 18)
        self.assertEqual(cost_of(((1,) * 6,), (TOP,) * 6, (-MAX_PRICE,) * 6), -6 * 10 ** 18)
        self.assertEqual(cost_of(((0, 0, 0),), (1, 10, 100), (2, -3, 4)), 372)

    def test_no_prices(self):
        for prices in NO_PRICES:
            with Unchanged(self, prices), self.assertRaises(NoPrices):
                cost_of(W, (4, 3), prices)

    def test_each_price_is_checked(self):
        for at in range(6):
            for price in (MAX_PRICE + 1, -MAX_PRICE - 1, True, None, "0"):
                prices = (0,) * at + (price,) + (0,) * (5 - at)
                with self.assertRaises(NoPrices):
                    cost_of(((1,) * 6,), (1,) * 6, prices)

    def test_no_setting_comes_first(self):
        for setting in NO_SETTINGS:
            for prices in ((1, -1), (1,), None, [1, -1], (True, 1)):
                with Unchanged(self, setting), self.assertRaises(NoSetting):
                    cost_of(W, setting, prices)

    def test_number_of_inlets_counts(self):
        self.assertEqual(cost_of(((1, 2, 3),), (1, 1, 1), (1, 1, 1)), 3)
        for parts in ((1,), (1, 1), (1, 1, 1, 1)):
            with self.assertRaises(NoSetting):
                cost_of(((1, 2, 3),), parts, (1, 1, 1))
            with self.assertRaises(NoPrices):
                cost_of(((1, 2, 3),), (1, 1, 1), parts)


class CheapestTest(unittest.TestCase):
    """Points 29 and 31."""

    def check(self, table, wants, prices, lowest):
        with Unchanged(self, table, wants, prices):
            found = cheapest_solution(table, wants, prices)
            self.assertEqual(cheapest_solution(table, wants, prices), found)
        self.assertIs(type(found), tuple)
        cost, setting = found
        self.assertIs(type(cost), int)
        self.assertEqual(slow_levels(table, setting), wants)
        self.assertEqual(cost, slow_cost(setting, prices))
        self.assertEqual(cost_of(table, setting, prices), cost)
        self.assertEqual(cost, lowest, (table, wants, prices))

    def test_small_tables(self):
        source = random.Random(51)
        for table, wants, _ in small_cases():
            cells = slow_cells(table, wants)
            for prices in (random_prices(source, len(table[0])) for _ in range(3)):
                if cells:
                    self.check(table, wants, prices, slow_lowest_cost(cells, prices))
                else:
                    self.check_not_reached(table, wants, prices)

    def check_not_reached(self, table, wants, prices):
        with self.assertRaises(NoSolution) as caught:
            cheapest_solution(table, wants, prices)
        self.assertIn(caught.exception.evidence, slow_evidence(table, wants))

    def test_all_solutions_of_bounded_tables(self):
        # The first outlet keeps all levels at most 4, so each solution can be tried.
        source = random.Random(52)
        for _ in range(150):
            table = ((TOP,) * 3, *[tuple(source.randint(0, 4) for _ in range(3)) for _ in range(2)])
            wants = slow_levels(table, tuple(source.randint(0, 4) for _ in range(3)))
            settings = itertools.product(range(5), repeat=3)
            solutions = [setting for setting in settings if slow_levels(table, setting) == wants]
            prices = random_prices(source, 3)
            self.check(table, wants, prices, min(slow_cost(setting, prices) for setting in solutions))

    def test_large_tables(self):
        source = random.Random(53)
        for distinct in (1, 2):
            for table, wants in crowded_tables(53 + distinct, 3, distinct):
                cells = slow_cells(table, wants)
                for prices in (random_prices(source, 6) for _ in range(3)):
                    self.check(table, wants, prices, slow_lowest_cost(cells, prices))

    def test_corners_of_large_tables(self):
        source = random.Random(54)
        for table, wants in (*random_tables(55, 200, TOP), *crowded_tables(56, 30, 6)):
            prices = random_prices(source, len(table[0]))
            if find_evidence(table, wants):
                with self.assertRaises(NoSolution) as caught:
                    cheapest_solution(table, wants, prices)
                self.assertIs(is_evidence(table, wants, caught.exception.evidence), True)
                continue
            # Every solution lies between a minimal one and the greatest one.
            upper = greatest_solution(table, wants)
            costs = []
            for least in minimal_solutions(table, wants):
                costs.append(sum(min(p * low, p * high) for p, low, high in zip(prices, least, upper)))
            self.check(table, wants, prices, min(costs))

    def test_signs(self):
        self.assertEqual(cheapest_solution(((3, 5),), (3,), (2, 1)), (3, (0, 3)))
        self.assertEqual(cheapest_solution(((3, 5),), (3,), (1, 2)), (3, (3, 0)))
        self.assertEqual(cheapest_solution(((3, 5),), (3,), (-1, 2)), (-TOP, (TOP, 0)))
        self.assertEqual(cheapest_solution(((3, 5),), (3,), (-1, -1)), (-TOP - 3, (TOP, 3)))
        self.assertEqual(cheapest_solution(W, (3, 4), (MAX_PRICE, MAX_PRICE)), (4 * MAX_PRICE, (4, 0)))
        self.assertEqual(cheapest_solution(W, (3, 4), (-MAX_PRICE, -MAX_PRICE)), (-MAX_PRICE * (TOP + 3), (TOP, 3)))
        self.assertEqual(cheapest_solution(W, (0, 0), (7, -7)), (0, (0, 0)))

    def test_prices_of_zero(self):
        self.check(W, (3, 4), (0, 0), 0)
        self.check(W, (3, 4), (0, 1), 0)
        self.check(W, (3, 4), (1, 0), 4)
        self.check(((0,) * 6,) * 6, (0,) * 6, (0,) * 6, 0)

    def test_no_prices_comes_first(self):
        for prices in NO_PRICES:
            for wants in ((3, 4), (4, 1)):
                with Unchanged(self, prices), self.assertRaises(NoPrices):
                    cheapest_solution(W, wants, prices)

    def test_no_solution(self):
        for prices in ((1, 1), (0, 0), (-MAX_PRICE, MAX_PRICE)):
            with self.assertRaises(NoSolution) as caught:
                cheapest_solution(W, (4, 1), prices)
            self.assertEqual(caught.exception.evidence, (0, (None, 1)))


if __name__ == "__main__":
    unittest.main()
