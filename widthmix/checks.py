"""Checks of any value that the other modules share."""

from widthmix.limits import TOP


def is_integer(value):
    # Python counts truth values as integers; the document does not.
    return isinstance(value, int) and not isinstance(value, bool)


def is_level(value):
    return is_integer(value) and 0 <= value <= TOP


def is_number_below(value, many):
    return is_integer(value) and 0 <= value < many


def is_tuple_of(value, many):
    return isinstance(value, tuple) and len(value) == many


def are_levels(value, many):
    return is_tuple_of(value, many) and all([is_level(part) for part in value])
