"""Texts of tables with wants, and of settings."""

from widthmix.checks import is_level
from widthmix.errors import BadText
from widthmix.limits import MAX_INLETS, MAX_OUTLETS

MAX_DIGITS = 13


def format_data(table, wants):
    """Return the text of a table with wants, one line for each outlet."""
    return "".join([f"{want}: {format_setting(row)}\n" for row, want in zip(table, wants)])


def parse_data(value):
    """Return the table and the wants with that text."""
    if not isinstance(value, str):
        raise BadText(None)
    *lines, rest = value.split("\n")
    rows = []
    wants = []
    for index, line in enumerate(lines):
        want, row = parsed_line(line)
        if index == MAX_OUTLETS or row is None or (rows and len(row) != len(rows[0])):
            raise BadText(index)
        wants.append(want)
        rows.append(row)
    # What follows the last line end is a wrong line unless it is empty, and one line is needed.
    if rest != "" or not rows:
        raise BadText(len(lines))
    return (tuple(rows), tuple(wants))


def parsed_line(line):
    """Return the want and the row of widths of a line, or twice None if it has another form."""
    want, separator, widths = line.partition(": ")
    words = widths.split(" ")
    if separator == "" or not is_level_word(want) or not are_level_words(words):
        return (None, None)
    return (int(want), parsed_words(words))


def format_setting(setting):
    """Return the levels joined by single spaces."""
    return " ".join([str(level) for level in setting])


def parse_setting(value):
    """Return the levels with that text."""
    if not isinstance(value, str):
        raise BadText(None)
    words = value.split(" ")
    if not are_level_words(words):
        raise BadText(0)
    return parsed_words(words)


def parsed_words(words):
    return tuple([int(word) for word in words])


def are_level_words(words):
    return len(words) <= MAX_INLETS and all([is_level_word(word) for word in words])


def is_level_word(word):
    return is_numeral(word) and is_level(int(word))


def is_numeral(word):
    """Return whether word is an integer of at most 13 digits without a sign and without leading zeros."""
    # Python counts other signs than these ten as digits, too.
    if not word.isascii() or not word.isdigit() or len(word) > MAX_DIGITS:
        return False
    return word == "0" or not word.startswith("0")
