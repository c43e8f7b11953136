"""Products and powers of tables, and equations between tables."""

from widthmix.checks import is_level, is_number_below
from widthmix.errors import NoExponent, NoLevel, NoMatch, NotSquare
from widthmix.limits import MAX_EXPONENT, TOP
from widthmix.solutions import highest_setting
from widthmix.tables import levels_of, turned


def product(one, other):
    """Return the table that acts as other does, and then one."""
    if len(one[0]) != len(other):
        raise NoMatch()
    # A row of the product holds the levels of the turned table, with the row of one as its setting.
    turned_other = turned(other)
    return tuple([levels_of(turned_other, row) for row in one])


def power(table, exponent):
    """Return the product of that many times the table."""
    check_square(table)
    if not is_number_below(exponent, MAX_EXPONENT + 1):
        raise NoExponent(exponent)
    result = unit_table(len(table))
    square = table
    while exponent > 0:
        if exponent % 2 == 1:
            result = product(result, square)
        square = product(square, square)
        exponent //= 2
    return result


def check_square(table):
    if len(table) != len(table[0]):
        raise NotSquare()


def unit_table(size):
    return tuple([unit_row(size, outlet) for outlet in range(size)])


def unit_row(size, outlet):
    return tuple([TOP if inlet == outlet else 0 for inlet in range(size)])


def index_and_period(table):
    """Return the least exponent from which the powers repeat, and after how many they do."""
    check_square(table)
    exponents = {}
    current = unit_table(len(table))
    while current not in exponents:
        exponents[current] = len(exponents)
        current = product(current, table)
    index = exponents[current]
    return (index, len(exponents) - index)


def closure(table):
    """Return the table with the greatest widths of all powers with exponents from 1."""
    check_square(table)
    result = table
    # A way from an outlet to an inlet that visits a number twice is no wider than the shorter way without the detour,
    # so no exponent above the size is needed.
    for exponent in range(2, len(table) + 1):
        result = greatest_widths(table, product(result, table))
    return result


def greatest_widths(one, other):
    return tuple([greatest_row(row, other_row) for row, other_row in zip(one, other)])


def greatest_row(row, other_row):
    return tuple([max(width, other_width) for width, other_width in zip(row, other_row)])


def groups_at(table, level):
    """Return the groups of numbers that reach each other with at least that width."""
    check_square(table)
    if not is_level(level):
        raise NoLevel(level)
    reached = closure(table)
    groups = [group_of(reached, level, number) for number in range(len(table))]
    return tuple([group for number, group in enumerate(groups) if group[0] == number])


def group_of(reached, level, number):
    return tuple([other for other in range(len(reached)) if are_together(reached, level, number, other)])


def are_together(reached, level, number, other):
    return number == other or min(reached[number][other], reached[other][number]) >= level


def residual(table, target):
    """Return the greatest table whose product with table, on its left, exceeds no width of target."""
    if len(table) != len(target):
        raise NoMatch()
    return turned(tuple([highest_setting(table, caps) for caps in turned(target)]))


def solve_product(table, target):
    """Return the greatest table whose product with table, on its left, is target, or None if there is none."""
    result = residual(table, target)
    return result if product(table, result) == target else None
