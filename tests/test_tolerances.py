import itertools
import random
import unittest

from tests.helper import (
    ODD_VALUES, Unchanged, W, crowded_tables, excludes, is_below, random_tables, same_kinds, slow_evidence, slow_levels,
    small_cases, with_one_part_changed,
)
from widthmix.errors import NoLevel
from widthmix.limits import TOP
from widthmix.solutions import certificate, find_evidence, is_evidence
from widthmix.tolerances import (
    is_evidence_against, is_tolerance_certificate, least_tolerance, setting_within, tolerance_certificate,
)

NO_LEVELS = (*ODD_VALUES, (1,), [1])


def distance(table, wants, setting):
    return max(abs(level - want) for level, want in zip(slow_levels(table, setting), wants))


def distances(table, wants, greatest):
    """All settings, but the levels above the greatest width only as one and as TOP, with their distances."""
    settings = itertools.product((*range(greatest + 2), TOP), repeat=len(table[0]))
    return {setting: distance(table, wants, setting) for setting in settings}


def is_slow_evidence(table, wants, tolerance, value):
    """Whether a tuple of the right form is evidence against the tolerance."""
    outlet, reasons = value
    return all(excludes(table, wants, outlet, inlet, reason, tolerance) for inlet, reason in enumerate(reasons))


class SearchTest(unittest.TestCase):
    """Points 3 (c) and 32 to 37, against a search of all settings."""

    def test_small_tables(self):
        for table, wants, greatest in small_cases():
            found = distances(table, wants, greatest)
            least = min(found.values())
            self.assertTrue(same_kinds(least_tolerance(table, wants), least), (table, wants))
            self.check_settings(table, wants, found, least)
            self.check_certificate(table, wants, found, least)

    def check_settings(self, table, wants, found, least):
        for tolerance in {0, 1, 2, 3, least, max(least - 1, 0), TOP}:
            within = [setting for setting in found if found[setting] <= tolerance]
            best = setting_within(table, wants, tolerance)
            if within:
                self.assertIn(best, within)
                self.assertTrue(all(is_below(setting, best) for setting in within))
            else:
                self.assertIsNone(best)
                self.assertLess(tolerance, least)

    def check_certificate(self, table, wants, found, least):
        tolerance, setting, evidence = tolerance_certificate(table, wants)
        self.assertEqual((tolerance, found[setting]), (least, least))
        self.assertEqual(setting, setting_within(table, wants, least))
        if least == 0:
            self.assertIsNone(evidence)
        else:
            self.assertIn(evidence, slow_evidence(table, wants, least - 1))
        self.assertIs(is_tolerance_certificate(table, wants, (tolerance, setting, evidence)), True)

    def test_evidence_against_on_small_tables(self):
        for table, wants, greatest in small_cases():
            if len(table) * len(table[0]) > 4:
                continue
            least = min(distances(table, wants, greatest).values())
            for tolerance in range(3):
                evidence = slow_evidence(table, wants, tolerance)
                self.assertEqual(evidence == [], tolerance >= least)
                for outlet in range(-1, len(table) + 1):
                    for reasons in itertools.product((None, -1, *range(len(table) + 1)), repeat=len(table[0])):
                        value = (outlet, reasons)
                        self.assertIs(is_evidence_against(table, wants, tolerance, value), value in evidence)

    def test_certificates_on_small_tables(self):
        for number, (table, wants, greatest) in enumerate(small_cases()):
            # A part of the larger tables is enough, because all values of the form are tried for each.
            if len(table) * len(table[0]) > 2 and number % 101:
                continue
            found = distances(table, wants, greatest)
            least = min(found.values())
            for tolerance in range(4):
                evidence = slow_evidence(table, wants, tolerance - 1) if tolerance else [None]
                for proof in (None, *itertools.product(range(len(table)), self.all_reasons(table))):
                    for setting in found:
                        expected = tolerance == least and found[setting] <= tolerance and proof in evidence
                        value = (tolerance, setting, proof)
                        self.assertIs(is_tolerance_certificate(table, wants, value), expected, (table, wants, value))

    def all_reasons(self, table):
        return list(itertools.product((None, *range(len(table))), repeat=len(table[0])))


class LargeTableTest(unittest.TestCase):
    """Points 3 (c) and 32 to 37 on tables of up to six outlets and six inlets with levels up to TOP."""

    def cases(self):
        yield from random_tables(61, 100)
        yield from random_tables(62, 300, TOP)
        yield from crowded_tables(63, 30, 3)
        source = random.Random(64)
        for table, _ in crowded_tables(65, 60, 6):
            yield table, tuple(source.choice((0, TOP, source.randint(0, TOP))) for _ in range(6))

    def test_certificates(self):
        zero = 0
        for table, wants in self.cases():
            with Unchanged(self, table, wants):
                value = tolerance_certificate(table, wants)
                self.assertEqual(tolerance_certificate(table, wants), value)
                self.check(table, wants, value)
            zero += value[0] == 0
        self.assertTrue(50 < zero < 440, zero)

    def check(self, table, wants, value):
        tolerance, setting, evidence = value
        self.assertIs(is_tolerance_certificate(table, wants, value), True)
        self.assertIs(type(tolerance), int)
        self.assertEqual(least_tolerance(table, wants), tolerance)
        self.assertEqual(setting_within(table, wants, tolerance), setting)
        self.assertEqual(distance(table, wants, setting), tolerance)
        if tolerance == 0:
            self.assertIsNone(evidence)
            self.assertEqual(certificate(table, wants), ("setting", setting))
        else:
            self.assertTrue(is_slow_evidence(table, wants, tolerance - 1, evidence))
            self.check_smaller(table, wants, tolerance, evidence)
        self.check_greater(table, wants, tolerance, setting)

    def check_smaller(self, table, wants, least, evidence):
        for tolerance in {0, least // 2, least - 1}:
            self.assertIsNone(setting_within(table, wants, tolerance))
            # A smaller tolerance is excluded, too, but perhaps not by the same reasons.
            expected = is_slow_evidence(table, wants, tolerance, evidence)
            self.assertIs(is_evidence_against(table, wants, tolerance, evidence), expected)
        for tolerance in {least, min(least + 1, TOP), TOP}:
            self.assertIs(is_evidence_against(table, wants, tolerance, evidence), False)

    def check_greater(self, table, wants, least, setting):
        for tolerance in {min(least + 1, TOP), (least + TOP) // 2, TOP}:
            wider = setting_within(table, wants, tolerance)
            self.assertLessEqual(distance(table, wants, wider), tolerance)
            self.assertTrue(is_below(setting, wider))
            for inlet, level in enumerate(wider):
                if level < TOP:
                    higher = wider[:inlet] + (level + 1,) + wider[inlet + 1:]
                    self.assertGreater(distance(table, wants, higher), tolerance)

    def test_settings_below_the_greatest_one(self):
        for table, wants in random_tables(66, 150, TOP):
            tolerance, setting, evidence = tolerance_certificate(table, wants)
            for inlet, level in enumerate(setting):
                for other in {0, level // 2, max(level - 1, 0), min(level + 1, TOP)}:
                    changed = setting[:inlet] + (other,) + setting[inlet + 1:]
                    expected = distance(table, wants, changed) <= tolerance
                    self.assertIs(is_tolerance_certificate(table, wants, (tolerance, changed, evidence)), expected)


class SettingWithinTest(unittest.TestCase):
    """Points 32 and 33."""

    def test_edges(self):
        self.assertEqual(setting_within(W, (4, 1), 1), (2, TOP))
        self.assertIsNone(setting_within(W, (4, 1), 0))
        self.assertEqual(setting_within(W, (3, 4), 0), (TOP, 3))
        self.assertEqual(setting_within(W, (4, 1), TOP), (TOP, TOP))
        self.assertEqual(setting_within(((5,),), (0,), 4), (4,))
        self.assertEqual(setting_within(((5,),), (0,), 5), (TOP,))
        self.assertIsNone(setting_within(((5,),), (8,), 2))
        self.assertEqual(setting_within(((5,),), (8,), 3), (TOP,))

    def test_wants_at_the_ends(self):
        self.assertEqual(setting_within(((TOP,), (TOP,)), (0, TOP), TOP // 2), (TOP // 2,))
        self.assertIsNone(setting_within(((TOP,), (TOP,)), (0, TOP), TOP // 2 - 1))
        self.assertEqual(setting_within(((TOP,), (TOP,)), (0, TOP), TOP), (TOP,))
        self.assertEqual(setting_within(((0,),), (TOP,), TOP), (TOP,))
        self.assertIsNone(setting_within(((0,),), (TOP,), TOP - 1))
        self.assertEqual(setting_within(((0,),), (0,), 0), (TOP,))

    def test_no_level(self):
        for tolerance in NO_LEVELS:
            for wants in ((3, 4), (4, 1)):
                with Unchanged(self, tolerance), self.assertRaises(NoLevel) as caught:
                    setting_within(W, wants, tolerance)
                self.assertIs(caught.exception.level, tolerance)


class EvidenceAgainstTest(unittest.TestCase):
    """Points 32 and 34."""

    def test_edges(self):
        # Too narrow means: the width is less than the want minus the tolerance.
        self.assertIs(is_evidence_against(((5,),), (8,), 2, (0, (None,))), True)
        self.assertIs(is_evidence_against(((5,),), (8,), 3, (0, (None,))), False)
        # A reason needs a width above its want plus the tolerance, ..
        self.assertIs(is_evidence_against(((9,), (5,)), (9, 3), 1, (0, (1,))), True)
        self.assertIs(is_evidence_against(((9,), (5,)), (9, 3), 2, (0, (1,))), False)
        # .. and this must be less than the want of the outlet minus the tolerance.
        self.assertIs(is_evidence_against(((9,), (9,)), (9, 4), 2, (0, (1,))), True)
        self.assertIs(is_evidence_against(((9,), (9,)), (8, 4), 2, (0, (1,))), False)
        # An entry must be None where the outlet is too narrow.
        self.assertIs(is_evidence_against(((5,), (9,)), (9, 1), 1, (0, (None,))), True)
        self.assertIs(is_evidence_against(((5,), (9,)), (9, 1), 1, (0, (1,))), False)

    def test_tolerance_zero_is_evidence(self):
        for table, wants, _ in small_cases():
            if len(table) * len(table[0]) > 4:
                continue
            for outlet in range(len(table)):
                for reasons in itertools.product((None, *range(len(table))), repeat=len(table[0])):
                    value = (outlet, reasons)
                    self.assertIs(is_evidence_against(table, wants, 0, value), is_evidence(table, wants, value))

    def test_nothing_excludes_the_greatest_tolerance(self):
        for table, wants in random_tables(67, 60):
            for value in (find_evidence(table, wants), (0, (None,) * len(table[0])), (0, (0,) * len(table[0]))):
                self.assertIs(is_evidence_against(table, wants, TOP, value), False)

    def test_one_part_changed(self):
        for value in with_one_part_changed((0, (None, 1)), (*ODD_VALUES, 0, 1, 2)):
            with Unchanged(self, value):
                expected = repr(value) == "(0, (None, 1))"
                self.assertIs(is_evidence_against(W, (4, 1), 0, value), expected, value)
                self.assertIs(is_evidence_against(W, (4, 1), 1, value), False, value)
        # Wants with evidence against 2, of which the parts are few enough to try all.
        table, wants = ((9, 9), (9, 0), (0, 9)), (9, 1, 2)
        evidence = slow_evidence(table, wants, 2)
        self.assertEqual(evidence, [(0, (1, 2))])
        for value in with_one_part_changed((0, (1, 2)), (*ODD_VALUES, 0, 1, 2, 3)):
            self.assertIs(is_evidence_against(table, wants, 2, value), repr(value) == "(0, (1, 2))", value)

    def test_odd_values(self):
        for value in ODD_VALUES:
            for changed in (value, (value, (None, 1)), (0, value), (0, (None, value)), (value, value)):
                for tolerance in (0, 1, TOP):
                    self.assertIs(is_evidence_against(W, (4, 1), tolerance, changed), False, changed)

    def test_no_level(self):
        for tolerance in NO_LEVELS:
            for value in ((0, (None, 1)), None, 7):
                with Unchanged(self, tolerance), self.assertRaises(NoLevel) as caught:
                    is_evidence_against(W, (4, 1), tolerance, value)
                self.assertIs(caught.exception.level, tolerance)


class LeastToleranceTest(unittest.TestCase):
    """Point 35."""

    def test_edges(self):
        self.assertEqual(least_tolerance(W, (3, 4)), 0)
        self.assertEqual(least_tolerance(((0,),), (TOP,)), TOP)
        self.assertEqual(least_tolerance(((0,),), (0,)), 0)
        self.assertEqual(least_tolerance(((TOP,),), (TOP,)), 0)
        self.assertEqual(least_tolerance(((0,) * 6,) * 6, (TOP, 0, 1, TOP - 1, TOP, 5)), TOP)
        self.assertEqual(least_tolerance(((0,),), (TOP - 1,)), TOP - 1)

    def test_half_of_the_difference(self):
        for one, other in ((0, 1), (0, 2), (7, 4), (0, TOP), (0, TOP - 1), (1, TOP)):
            table = ((TOP,), (TOP,))
            self.assertEqual(least_tolerance(table, (one, other)), (abs(one - other) + 1) // 2)


class CertificateTest(unittest.TestCase):
    """Points 36 and 37."""

    def test_edges(self):
        self.assertEqual(tolerance_certificate(W, (3, 4)), (0, (TOP, 3), None))
        self.assertEqual(tolerance_certificate(((0,),), (TOP,)), (TOP, (TOP,), (0, (None,))))
        self.assertEqual(tolerance_certificate(((TOP,), (TOP,)), (0, TOP)), (TOP // 2, (TOP // 2,), (1, (0,))))

    def test_any_setting_within(self):
        for level in (3, 4, 5, TOP):
            self.assertIs(is_tolerance_certificate(W, (4, 1), (1, (2, level), (0, (None, 1)))), True)
        self.assertIs(is_tolerance_certificate(W, (4, 1), (1, (3, 3), (0, (None, 1)))), False)
        self.assertIs(is_tolerance_certificate(W, (4, 1), (1, (2, 2), (0, (None, 1)))), False)

    def test_none_if_and_only_if_zero(self):
        self.assertIs(is_tolerance_certificate(W, (3, 4), (0, (4, 0), None)), True)
        self.assertIs(is_tolerance_certificate(W, (3, 4), (1, (4, 0), None)), False)
        self.assertIs(is_tolerance_certificate(W, (4, 1), (1, (2, 7), None)), False)
        self.assertIs(is_tolerance_certificate(W, (3, 4), (0, (4, 0), (0, (None, 1)))), False)
        self.assertIs(is_tolerance_certificate(W, (4, 1), (0, (2, 7), None)), False)
        self.assertIs(is_tolerance_certificate(W, (4, 1), (0, (2, 7), (0, (None, 1)))), False)

    def test_tolerances_beside_the_least_one(self):
        for tolerance in (0, 2, 3, TOP - 1, TOP):
            self.assertIs(is_tolerance_certificate(W, (4, 1), (tolerance, (2, 7), (0, (None, 1)))), False)

    def test_one_part_changed(self):
        parts = (*ODD_VALUES, 0, 1, 2, 3, 4, TOP)
        for value in with_one_part_changed((1, (2, 7), (0, (None, 1))), parts):
            expected = self.is_certificate_of(value, (4, 1), 1, (0, (None, 1)))
            with Unchanged(self, value):
                self.assertIs(is_tolerance_certificate(W, (4, 1), value), expected, value)
        for value in with_one_part_changed((0, (4, 0), None), parts):
            expected = self.is_certificate_of(value, (3, 4), 0, None)
            with Unchanged(self, value):
                self.assertIs(is_tolerance_certificate(W, (3, 4), value), expected, value)

    def is_certificate_of(self, value, wants, tolerance, evidence):
        if type(value) is not tuple or len(value) != 3 or repr(value[::2]) != repr((tolerance, evidence)):
            return False
        setting = value[1]
        if type(setting) is not tuple or len(setting) != 2:
            return False
        plain = all(type(level) is int and 0 <= level <= TOP for level in setting)
        return plain and distance(W, wants, setting) <= tolerance

    def test_odd_values(self):
        for value in ODD_VALUES:
            for changed in (value, (value, (2, 7), (0, (None, 1))), (1, value, (0, (None, 1))), (1, (2, 7), value),
                            (value, value, value), (1, (2, value), (0, (None, 1))), (1, (2, 7), (0, value))):
                self.assertIs(is_tolerance_certificate(W, (4, 1), changed), False, changed)


if __name__ == "__main__":
    unittest.main()
