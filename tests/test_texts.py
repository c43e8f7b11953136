import itertools
import random
import re
import unittest

from tests.helper import ODD_VALUES, Unchanged, W, filled, random_levels, same_kinds
from tests.model import drawn_state, outcome_of
from widthmix.errors import BadText
from widthmix.limits import TOP
from widthmix.texts import format_data, format_setting, parse_data, parse_setting

NUMBER = "(?:0|[1-9][0-9]{0,12})"
TEXT = re.compile(f"(?:{NUMBER}:(?: {NUMBER}){{1,6}}\n){{1,6}}")
SETTING = re.compile(f"{NUMBER}(?: {NUMBER}){{0,5}}")
# What may be written in place of a level.
WORDS = ("", "00", "01", "007", "+1", "-1", "-0", "1 ", " 1", "1.0", "1e3", "0x1", "1_0", "one", "True", "None", "1:", ":",
         "1\n", "\n", "9" * 13, str(TOP + 1), str(10 * TOP), "1" * 14, "0" * 14, "9" * 100, str(TOP), str(TOP - 1), "0",
         "9" * 12)
SIGNS = " 0123456789:-+,.;ab~\n\t\r"


def numbers_of(text):
    return [int(word) for word in re.findall("[0-9]+", text)]


def is_text(value):
    """Whether value is the text of a table with wants."""
    if not TEXT.fullmatch(value) or max(numbers_of(value)) > TOP:
        return False
    return len({line.count(" ") for line in value.split("\n")[:-1]}) == 1


def slow_data(value):
    """What parse_data must return for a text, or the exception: the lines up to the first wrong one are no text."""
    if is_text(value):
        lines = [numbers_of(line) for line in value.split("\n")[:-1]]
        return "done", (tuple(tuple(line[1:]) for line in lines), tuple(line[0] for line in lines))
    ends = [at + 1 for at, sign in enumerate(value) if sign == "\n"]
    for line, end in enumerate([*ends, len(value)]):
        if not is_text(value[:end]):
            return "BadText", (line,)
    # All lines are correct, so there would be no line after them.
    raise AssertionError(value)


def slow_setting(value):
    if SETTING.fullmatch(value) and max(numbers_of(value)) <= TOP:
        return "done", tuple(numbers_of(value))
    return "BadText", (0,)


def with_one_sign_changed(text):
    """Each sign of a text left out, doubled, replaced, and with another one before it, and one more at the end."""
    for at, sign in enumerate(text):
        yield text[:at] + text[at + 1:]
        yield text[:at] + sign + text[at:]
        for other in SIGNS:
            yield text[:at] + other + text[at + 1:]
            yield text[:at] + other + text[at:]
    for other in SIGNS:
        yield text + other


class FormatTest(unittest.TestCase):
    """Points 73, 74 and 76."""

    def test_all_sizes(self):
        for outlets, inlets in itertools.product(range(1, 7), repeat=2):
            table, wants = filled(outlets, inlets), tuple(range(outlets))
            text = format_data(table, wants)
            self.assertTrue(is_text(text))
            lines = [f"{want}:" + "".join(f" {width}" for width in row) + "\n" for row, want in zip(table, wants)]
            self.assertEqual(text, "".join(lines))
            self.assertEqual(format_setting(table[0]), " ".join(str(level) for level in table[0]))

    def test_edges(self):
        self.assertEqual(format_data(((0,),), (0,)), "0: 0\n")
        self.assertEqual(format_data(((TOP, 0),), (TOP,)), "1000000000000: 1000000000000 0\n")
        self.assertEqual(format_setting((0,)), "0")
        self.assertEqual(format_setting((TOP,) * 6), " ".join(["1000000000000"] * 6))

    def test_arguments_are_not_changed(self):
        with Unchanged(self, W):
            self.assertEqual(format_data(W, (3, 4)), format_data(W, (3, 4)))


class ReadBackTest(unittest.TestCase):
    """Points 73 to 77."""

    def test_drawn_data(self):
        source = random.Random(161)
        for number in range(600):
            table, wants = drawn_state(source, greatest=(9, 10 ** 6, TOP)[number % 3])
            text = format_data(table, wants)
            self.assertTrue(is_text(text))
            self.assertTrue(same_kinds(parse_data(text), (table, wants)))

    def test_drawn_settings(self):
        source = random.Random(162)
        for number in range(600):
            setting = random_levels(source, source.randint(1, 6), (9, 10 ** 6, TOP)[number % 3])
            self.assertTrue(same_kinds(parse_setting(format_setting(setting)), setting))

    def test_texts_that_are_read_are_written_the_same(self):
        for text in ("0: 0\n", "3: 3 5\n4: 4 2\n", f"{TOP}: 0 {TOP}\n", "1: 1 1 1 1 1 1\n" * 6):
            self.assertEqual(format_data(*parse_data(text)), text)


class ParseDataTest(unittest.TestCase):
    """Points 2, 73 and 75."""

    def check(self, value):
        self.assertTrue(same_kinds(outcome_of(parse_data, value), slow_data(value)), value)

    def test_signs_changed(self):
        for text in ("0: 0\n", "3: 3 5\n4: 4 2\n", "10: 7\n0: 100\n9: 1\n", f"{TOP}: {TOP} 9\n"):
            for value in with_one_sign_changed(text):
                self.check(value)

    def test_words_changed(self):
        for text in ("0: 0\n", "3: 3 5\n4: 4 2\n", "1: 2 3 4 5 6 7\n" * 6):
            for found in re.finditer("[0-9]+", text):
                for word in WORDS:
                    self.check(text[:found.start()] + word + text[found.end():])

    def test_words_left_out_and_doubled(self):
        for text in ("5: 0\n", "3: 3 5\n4: 4 2\n", "1: 2 3 4 5 6 7\n" * 6):
            for found in re.finditer(" [0-9]+|[0-9]+:", text):
                self.check(text[:found.start()] + text[found.end():])
                self.check(text[:found.end()] + text[found.start():])

    def test_lines_changed_left_out_and_doubled(self):
        others = ("", "\n", "3\n", "3:\n", "3: \n", ": 3 5\n", "3 3 5\n", "3: 3\n", "3: 3 5 6\n", "3: 3 5 \n", " 3: 3 5\n",
                  "3:  3 5\n", "3 : 3 5\n", "3:3 5\n", "3; 3 5\n", "3: 3 5", "3: 3 5\r\n", "3: 3\t5\n", "3: 3, 5\n", "x\n",
                  "3: 1 2 3 4 5 6 7\n", "3: 3 5\n\n", "03: 3 5\n", "3: 3 05\n", "3: 3 5:\n", "3: 3: 5\n", "3::3 5\n")
        for many in range(1, 9):
            lines = ["3: 3 5\n"] * many
            self.check("".join(lines))
            for at in range(many):
                for other in others:
                    self.check("".join([*lines[:at], other, *lines[at + 1:]]))
                    self.check("".join([*lines[:at], other, *lines[at:]]))

    def test_two_changes_the_first_one_counts(self):
        lines = ["3: 3 5\n"] * 6
        for first, second in itertools.combinations(range(6), 2):
            changed = list(lines)
            changed[first] = "3: 3\n" if first else "3: \n"
            changed[second] = "?\n"
            self.assertEqual(outcome_of(parse_data, "".join(changed)), ("BadText", (first,)))

    def test_numbers_of_lines(self):
        for many in range(12):
            text = "3: 3 5\n" * many
            expected = ("BadText", (0 if many == 0 else 6,)) if not 1 <= many <= 6 else None
            if expected is None:
                self.assertEqual(parse_data(text), (((3, 5),) * many, (3,) * many))
            else:
                self.assertEqual(outcome_of(parse_data, text), expected)
            self.assertEqual(outcome_of(parse_data, text + "3: 3 5"), ("BadText", (min(many, 6),)))
            self.assertEqual(outcome_of(parse_data, text + "\n"), ("BadText", (min(many, 6),)))

    def test_numbers_of_widths(self):
        for many in range(12):
            text = "3:" + " 4" * many + "\n"
            if 1 <= many <= 6:
                self.assertEqual(parse_data(text), (((4,) * many,), (3,)))
            else:
                self.assertEqual(outcome_of(parse_data, text), ("BadText", (0,)))
        for first, second in itertools.product(range(1, 7), repeat=2):
            text = "3:" + " 4" * first + "\n3:" + " 4" * second + "\n"
            self.assertEqual(outcome_of(parse_data, text)[0], "done" if first == second else "BadText")
            self.check(text)

    def test_line_ends(self):
        for text in ("3: 3 5\r\n4: 4 2\r\n", "3: 3 5\r4: 4 2\r", "3: 3 5\n4: 4 2\r\n", "3: 3 5\x0b4: 4 2\n", "3: 3 5\n\n4: 4 2\n",
                     "3: 3 5\u20284: 4 2\n", "\n3: 3 5\n", "3: 3 5\n4: 4 2\n\n", "3: 3 5\n4: 4 2", "3: 3 5 4: 4 2\n", "\n",
                     "\n\n", ""):
            self.check(text)

    def test_other_digits(self):
        for digit in ("\u0663", "\u00b2", "\uff13", "\u2462"):
            for text in (f"{digit}: 3 5\n", f"3: {digit} 5\n", f"3: 3 5\n4: 4 {digit}\n", f"1{digit}: 1\n"):
                self.check(text)

    def test_no_strings(self):
        for value in ODD_VALUES:
            if isinstance(value, str):
                self.check(value)
                continue
            with Unchanged(self, value), self.assertRaises(BadText) as caught:
                parse_data(value)
            self.assertIsNone(caught.exception.line)
        self.assertEqual(outcome_of(parse_data, b"3: 3 5\n"), ("BadText", (None,)))
        self.assertEqual(outcome_of(parse_data, ["3: 3 5\n"]), ("BadText", (None,)))
        self.assertEqual(outcome_of(parse_data, (W, (3, 4))), ("BadText", (None,)))

    def test_long_texts(self):
        for text in ("3: 3 5\n" * 700, "3: " + "1 " * 2400 + "\n", "1" * 5000, "1: " + "1" * 4990 + "\n", " " * 5000,
                     "\n" * 5000, ":" * 5000):
            self.check(text)

    def test_drawn_texts(self):
        source = random.Random(163)
        for _ in range(3000):
            self.check("".join(source.choice(("1", "0", ": ", ":", " ", "\n", "1: 1\n")) for _ in range(source.randint(0, 12))))


class ParseSettingTest(unittest.TestCase):
    """Points 2, 73 and 77."""

    def check(self, value):
        self.assertTrue(same_kinds(outcome_of(parse_setting, value), slow_setting(value)), value)

    def test_signs_changed(self):
        for text in ("0", "4 0", "10 20 30", f"{TOP} 9", "1 2 3 4 5 6"):
            for value in with_one_sign_changed(text):
                self.check(value)

    def test_words_changed(self):
        for text in ("4", "4 0", "1 2 3 4 5 6"):
            for found in re.finditer("[0-9]+", text):
                for word in WORDS:
                    self.check(text[:found.start()] + word + text[found.end():])

    def test_lengths(self):
        for many in range(12):
            text = " ".join(["7"] * many)
            if 1 <= many <= 6:
                self.assertEqual(parse_setting(text), (7,) * many)
            else:
                self.assertEqual(outcome_of(parse_setting, text), ("BadText", (0,)))

    def test_texts_that_are_none(self):
        for text in ("", " ", "\n", "4\n", "4 0\n", "4\n0", " 4 0", "4 0 ", "4  0", "4,0", "4, 0", "(4, 0)", "4\t0", "3: 4 0",
                     "\u0663", "4 \u00b2", "1" * 5000, "1 " * 2500, "4 0\r"):
            self.check(text)
            self.assertEqual(outcome_of(parse_setting, text), ("BadText", (0,)))

    def test_no_strings(self):
        for value in (*ODD_VALUES, (4, 0), [4, 0], b"4 0", 4):
            if isinstance(value, str):
                self.check(value)
                continue
            with Unchanged(self, value), self.assertRaises(BadText) as caught:
                parse_setting(value)
            self.assertIsNone(caught.exception.line)


if __name__ == "__main__":
    unittest.main()
