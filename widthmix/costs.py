"""The cost of settings, and the cheapest solutions."""

from widthmix.checks import is_integer, is_tuple_of
from widthmix.errors import NoPrices, NoSetting
from widthmix.limits import MAX_PRICE
from widthmix.minimal import minimal_solutions
from widthmix.solutions import highest_solution
from widthmix.tables import is_setting


def cost_of(table, setting, prices):
    """Return the sum of the price times the level of each inlet."""
    if not is_setting(table, setting):
        raise NoSetting()
    if not are_prices(table, prices):
        raise NoPrices()
    return total(setting, prices)


def cheapest_solution(table, wants, prices):
    """Return the lowest cost of all solutions, and a solution with this cost."""
    if not are_prices(table, prices):
        raise NoPrices()
    upper = highest_solution(table, wants)
    found = [cheapest_between(setting, upper, prices) for setting in minimal_solutions(table, wants)]
    return min([(total(setting, prices), setting) for setting in found])


def are_prices(table, value):
    """Return whether value is prices for the table."""
    return is_tuple_of(value, len(table[0])) and all([is_price(part) for part in value])


def is_price(value):
    return is_integer(value) and -MAX_PRICE <= value <= MAX_PRICE


def total(setting, prices):
    return sum([price * level for price, level in zip(prices, setting)])


def cheapest_between(least, greatest, prices):
    return tuple([high if price < 0 else low for low, high, price in zip(least, greatest, prices)])
