import itertools
import random
import unittest

from tests.helper import (
    ODD_VALUES, Unchanged, W, is_below, random_tables, slow_evidence, slow_levels, slow_solutions, small_cases,
    with_one_part_changed,
)
from widthmix.errors import NoSolution, NoWants
from widthmix.limits import TOP
from widthmix.solutions import (
    certificate, find_evidence, greatest_solution, is_certificate, is_evidence, is_solution, upper_setting,
)
from widthmix.tables import levels_of

NO_WANTS = (
    (4,), (4, 1, 1), [4, 1], (True, 4), (4, False), (-1, 4), (4, TOP + 1), (None, 4), (4, "1"), ((4,), 1), {0: 4, 1: 1},
    *ODD_VALUES,
)


class SearchTest(unittest.TestCase):
    """Points 3, 13 to 16, 18 and 19, against a search of all settings."""

    def test_small_tables(self):
        for table, wants, greatest in small_cases():
            self.check(table, wants, greatest + 1)

    def test_some_tables_of_three_outlets_and_inlets(self):
        source = random.Random(6)
        for _ in range(500):
            table = tuple(tuple(source.randint(0, 4) for _ in range(3)) for _ in range(3))
            setting = tuple(source.randint(0, 5) for _ in range(3))
            wants = tuple(source.randint(0, 4) for _ in range(3))
            self.check(table, wants, 4)
            self.check(table, slow_levels(table, setting), 4)

    def check(self, table, wants, greatest):
        solutions = slow_solutions(table, wants, greatest)
        if solutions:
            self.check_reached(table, wants, solutions)
        else:
            self.check_not_reached(table, wants)

    def check_reached(self, table, wants, solutions):
        best = greatest_solution(table, wants)
        self.assertIn(best, solutions)
        self.assertTrue(all(is_below(setting, best) for setting in solutions))
        self.assertEqual(upper_setting(table, wants), best)
        self.assertIsNone(find_evidence(table, wants))
        self.assertEqual(slow_evidence(table, wants), [])
        self.assertEqual(certificate(table, wants), ("setting", best))

    def check_not_reached(self, table, wants):
        evidence = find_evidence(table, wants)
        self.assertIn(evidence, slow_evidence(table, wants))
        with self.assertRaises(NoSolution) as caught:
            greatest_solution(table, wants)
        self.assertIn(caught.exception.evidence, slow_evidence(table, wants))
        word, proof = certificate(table, wants)
        self.assertEqual(word, "evidence")
        self.assertIn(proof, slow_evidence(table, wants))

    def test_upper_setting_is_the_greatest_that_exceeds_no_want(self):
        for table, wants, greatest in small_cases():
            upper = upper_setting(table, wants)
            self.assertTrue(is_below(slow_levels(table, upper), wants))
            for setting in itertools.product((*range(greatest + 3), TOP), repeat=len(table[0])):
                if is_below(slow_levels(table, setting), wants):
                    self.assertTrue(is_below(setting, upper))


class LargeTableTest(unittest.TestCase):
    """Point 3 (a) and (b) on tables of all sizes."""

    def test_a_solution_or_evidence_never_both(self):
        words = set()
        for table, wants in random_tables(2, 600):
            word, proof = certificate(table, wants)
            words.add(word)
            self.assertIs(is_certificate(table, wants, (word, proof)), True)
            if word == "setting":
                self.assertEqual(slow_levels(table, proof), wants)
                self.assertEqual(greatest_solution(table, wants), proof)
                self.assertIsNone(find_evidence(table, wants))
            else:
                self.assertIs(is_evidence(table, wants, find_evidence(table, wants)), True)
                self.assertNotEqual(slow_levels(table, upper_setting(table, wants)), wants)
        self.assertEqual(words, {"setting", "evidence"})

    def test_every_setting_is_below_the_greatest_with_its_levels(self):
        for table, wants in random_tables(3, 300):
            setting = tuple((7 * inlet + sum(wants)) % 11 for inlet in range(len(table[0])))
            reached = slow_levels(table, setting)
            self.assertTrue(is_below(setting, greatest_solution(table, reached)))
            self.assertIs(is_solution(table, reached, setting), True)

    def test_the_greatest_solution_cannot_grow(self):
        for table, wants in random_tables(4, 300):
            upper = upper_setting(table, wants)
            for inlet, level in enumerate(upper):
                if level < TOP:
                    raised = upper[:inlet] + (level + 1,) + upper[inlet + 1:]
                    self.assertFalse(is_below(slow_levels(table, raised), wants))


class UpperSettingTest(unittest.TestCase):
    """Points 13 and 14."""

    def test_edges(self):
        self.assertEqual(upper_setting(((5,),), (4,)), (4,))
        # A width that equals the want does not hold the inlet down.
        self.assertEqual(upper_setting(((5,),), (5,)), (TOP,))
        self.assertEqual(upper_setting(((5,),), (0,)), (0,))
        self.assertEqual(upper_setting(((0,),), (0,)), (TOP,))
        self.assertEqual(upper_setting(((TOP,),), (TOP,)), (TOP,))
        self.assertEqual(upper_setting(((TOP,),), (TOP - 1,)), (TOP - 1,))
        self.assertEqual(upper_setting(((9,), (9,), (2,)), (5, 3, 2)), (3,))
        self.assertEqual(upper_setting(W, (4, 1)), (1, 1))

    def test_no_wants(self):
        for function in (upper_setting, find_evidence, greatest_solution, certificate):
            for wants in NO_WANTS:
                with Unchanged(self, wants), self.assertRaises(NoWants):
                    function(W, wants)

    def test_number_of_outlets_counts(self):
        tall = ((1,), (2,), (3,))
        for function in (upper_setting, find_evidence, greatest_solution, certificate):
            function(tall, (0, 0, 0))
            for wants in ((0,), (0, 0), (0, 0, 0, 0)):
                with self.assertRaises(NoWants):
                    function(tall, wants)


class IsSolutionTest(unittest.TestCase):
    """Points 13 and 15."""

    def test_small_tables(self):
        for table, wants, greatest in small_cases():
            for setting in itertools.product((*range(greatest + 2), TOP), repeat=len(table[0])):
                self.assertIs(is_solution(table, wants, setting), slow_levels(table, setting) == wants)

    def test_no_solutions(self):
        self.assertIs(is_solution(W, (3, 4), (4, 2)), True)
        for value in ([4, 2], (4,), (4, 2, 0), (4, True), (4, -1), (TOP + 1, 2), ("4", 2), (4, None), ((4, 2),),
                      ("setting", (4, 2)), *ODD_VALUES):
            with Unchanged(self, value):
                self.assertIs(is_solution(W, (3, 4), value), False, value)

    def test_truth_values_are_no_levels(self):
        self.assertIs(is_solution(((1, 1),), (1,), (1, 0)), True)
        for value in ((True, 0), (1, False), (True, False)):
            self.assertIs(is_solution(((1, 1),), (1,), value), False)

    def test_no_wants(self):
        for wants in ([3, 4], (3,), (3, 4, 0), *NO_WANTS):
            self.assertIs(is_solution(W, wants, (4, 2)), False, wants)
        self.assertIs(is_solution(((1,),), (True,), (1,)), False)


class EvidenceTest(unittest.TestCase):
    """Points 13, 16 and 17."""

    def test_small_tables(self):
        for table, wants, _ in small_cases():
            evidence = slow_evidence(table, wants)
            for outlet in range(-1, len(table) + 1):
                for reasons in itertools.product((None, -1, *range(len(table) + 1)), repeat=len(table[0])):
                    value = (outlet, reasons)
                    self.assertIs(is_evidence(table, wants, value), value in evidence, (table, wants, value))

    def test_edges(self):
        # The want is one more than the width: too narrow. It equals the width: a reason is needed.
        self.assertIs(is_evidence(((5,),), (6,), (0, (None,))), True)
        self.assertIs(is_evidence(((5,),), (5,), (0, (None,))), False)
        # An outlet is a reason only if it wants less than its width, and less than the outlet wants.
        self.assertIs(is_evidence(((5,), (5,)), (5, 4), (0, (1,))), True)
        self.assertIs(is_evidence(((5,), (4,)), (5, 4), (0, (1,))), False)
        self.assertIs(is_evidence(((5,), (6,)), (5, 5), (0, (1,))), False)
        self.assertIs(is_evidence(((6,), (6,)), (5, 4), (0, (0,))), False)
        # Nobody holds the inlet down, but it is wide enough.
        self.assertIsNone(find_evidence(((TOP,),), (TOP,)))
        self.assertEqual(find_evidence(((TOP - 1,),), (TOP,)), (0, (None,)))
        self.assertIsNone(find_evidence(((0,),), (0,)))

    def test_several_are_accepted(self):
        table, wants = ((5, 5), (6, 6), (7, 7)), (5, 1, 2)
        for reasons in itertools.product((1, 2), repeat=2):
            self.assertIs(is_evidence(table, wants, (0, reasons)), True)
        self.assertIs(is_evidence(table, wants, (2, (1, 1))), True)
        self.assertIs(is_evidence(table, wants, (2, (1, 0))), False)

    def test_one_part_changed(self):
        evidence = slow_evidence(W, (4, 1))
        self.assertEqual(evidence, [(0, (None, 1))])
        for value in with_one_part_changed((0, (None, 1)), (*ODD_VALUES, 0, 1, 2)):
            expected = repr(value) == repr(evidence[0])
            with Unchanged(self, value):
                self.assertIs(is_evidence(W, (4, 1), value), expected, value)

    def test_named_changes(self):
        for value in (
            (False, (None, 1)), (1, (None, 1)), (-2, (None, 1)), (2, (None, 1)), ("0", (None, 1)), (None, (None, 1)),
            (0, (None, True)), (0, (None, -1)), (0, (None, 2)), (0, (None, None)), (0, (None, 0)), (0, (1, 1)),
            (0, (False, 1)), (0, (None,)), (0, (None, 1, None)), (0, ()), (0, None), (0, 1), (0, [None, 1]),
            (0, {0: None, 1: 1}), [0, (None, 1)], (0,), (0, (None, 1), 0), ((0, (None, 1)),), ("evidence", (0, (None, 1))),
        ):
            self.assertIs(is_evidence(W, (4, 1), value), False, value)

    def test_odd_values(self):
        for value in ODD_VALUES:
            for changed in (value, (value, (None, 1)), (0, value), (0, (None, value)), (value, value)):
                self.assertIs(is_evidence(W, (4, 1), changed), False, changed)

    def test_no_wants(self):
        for wants in NO_WANTS:
            self.assertIs(is_evidence(W, wants, (0, (None, 1))), False, wants)


class CertificateTest(unittest.TestCase):
    """Points 18 to 20."""

    def test_greatest_is_the_upper_setting(self):
        self.assertEqual(greatest_solution(W, (3, 4)), (TOP, 3))
        self.assertEqual(greatest_solution(W, (0, 0)), (0, 0))
        self.assertEqual(greatest_solution(W, (5, 4)), (TOP, TOP))

    def test_no_wants_comes_before_no_solution(self):
        for wants in ((4, True), (4, 1, 0), [4, 1]):
            with self.assertRaises(NoWants):
                greatest_solution(W, wants)

    def test_evidence_of_no_solution(self):
        with self.assertRaises(NoSolution) as caught:
            greatest_solution(W, (4, 1))
        self.assertEqual(caught.exception.evidence, (0, (None, 1)))

    def test_any_solution_and_any_evidence(self):
        for setting in ((4, 0), (4, 3), (9, 2), (TOP, 3)):
            self.assertIs(is_certificate(W, (3, 4), ("setting", setting)), True)
        table, wants = ((5, 5), (6, 6), (7, 7)), (5, 1, 2)
        for reasons in itertools.product((1, 2), repeat=2):
            self.assertIs(is_certificate(table, wants, ("evidence", (0, reasons))), True)
        self.assertIs(is_certificate(W, (4, 1), ("setting", (1, 1))), False)
        self.assertIs(is_certificate(W, (3, 4), ("evidence", (0, (None, 1)))), False)

    def test_one_part_changed(self):
        parts = (*ODD_VALUES, 0, 1, 2, 3, 4, 5)
        for value in with_one_part_changed(("setting", (4, 2)), parts):
            expected = False
            if isinstance(value, tuple) and len(value) == 2 and value[0] == "setting":
                setting = value[1]
                plain = isinstance(setting, tuple) and len(setting) == 2
                plain = plain and all(type(level) is int and 0 <= level <= TOP for level in setting)
                expected = plain and slow_levels(W, setting) == (3, 4)
            with Unchanged(self, value):
                self.assertIs(is_certificate(W, (3, 4), value), expected, value)
        for value in with_one_part_changed(("evidence", (0, (None, 1))), parts):
            expected = repr(value) == "('evidence', (0, (None, 1)))"
            with Unchanged(self, value):
                self.assertIs(is_certificate(W, (4, 1), value), expected, value)

    def test_words(self):
        for word in ("setting ", "Setting", "settin", "s", "", "evidence", None, 0, True, ("setting",), ["setting"]):
            self.assertIs(is_certificate(W, (3, 4), (word, (4, 0))), False, word)
        for word in ("setting", "Evidence", "evidences", None, 1, ("evidence",)):
            self.assertIs(is_certificate(W, (4, 1), (word, (0, (None, 1)))), False, word)

    def test_odd_values(self):
        for value in ODD_VALUES:
            for changed in (value, ("setting", value), ("evidence", value), (value, value), ("evidence", (0, value))):
                self.assertIs(is_certificate(W, (3, 4), changed), False, changed)
                self.assertIs(is_certificate(W, (4, 1), changed), False, changed)

    def test_no_wants(self):
        for wants in NO_WANTS:
            self.assertIs(is_certificate(W, wants, ("setting", (4, 0))), False, wants)
            self.assertIs(is_certificate(W, wants, ("evidence", (0, (None, 1)))), False, wants)


class RepeatTest(unittest.TestCase):
    """Point 2."""

    def test_same_call_same_result(self):
        for table, wants in random_tables(5, 100):
            with Unchanged(self, table, wants):
                for function in (upper_setting, find_evidence, certificate):
                    self.assertEqual(function(table, wants), function(table, wants))
            upper = upper_setting(table, wants)
            self.assertEqual(levels_of(table, upper), slow_levels(table, upper))


if __name__ == "__main__":
    unittest.main()
