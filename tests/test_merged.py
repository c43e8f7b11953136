import itertools
import unittest

from tests.helper import W, filled
from widthmix.errors import NoMatch, TooMany
from widthmix.tables import is_table, join_inlets, join_outlets, merged, turned


class JoinTest(unittest.TestCase):
    """Point 11."""

    def test_all_sizes(self):
        sizes = range(1, 7)
        for outlets, more, inlets, other in itertools.product(sizes, repeat=4):
            one, two = filled(outlets, inlets), filled(more, other, 100)
            self.check(join_outlets, one, two, inlets != other, outlets + more, one + two)
            # Turned tables have inlets where these have outlets.
            self.check(join_inlets, turned(one), turned(two), inlets != other, outlets + more,
                       None if inlets != other else turned(one + two))

    def check(self, function, one, two, differ, total, expected):
        if differ:
            with self.assertRaises(NoMatch):
                function(one, two)
        elif total > 6:
            with self.assertRaises(TooMany) as caught:
                function(one, two)
            self.assertEqual(caught.exception.limit, 6)
        else:
            result = function(one, two)
            self.assertEqual(result, expected)
            self.assertIs(is_table(result), True)

    def test_order_and_edges(self):
        self.assertEqual(join_outlets(((1,),), ((0,),)), ((1,), (0,)))
        self.assertEqual(join_outlets(((7, 0),), W), ((7, 0), (3, 5), (4, 2)))
        self.assertEqual(join_inlets(W, ((6,), (0,))), ((3, 5, 6), (4, 2, 0)))
        self.assertEqual(join_inlets(((6,), (0,)), W), ((6, 3, 5), (0, 4, 2)))
        self.assertEqual(join_inlets(((1, 2, 3),), ((4, 5, 6),)), ((1, 2, 3, 4, 5, 6),))

    def test_no_match_comes_before_too_many(self):
        with self.assertRaises(NoMatch):
            join_outlets(filled(6, 2), filled(6, 3))
        with self.assertRaises(NoMatch):
            join_inlets(filled(2, 6), filled(3, 6))

    def test_only_the_joined_side_must_match(self):
        self.assertEqual(len(join_outlets(filled(4, 6), filled(2, 6))), 6)
        self.assertEqual(len(join_inlets(filled(6, 4), filled(6, 2))[5]), 6)
        with self.assertRaises(TooMany):
            join_outlets(filled(4, 1), filled(3, 1))
        with self.assertRaises(TooMany):
            join_inlets(filled(1, 4), filled(1, 3))


class MergedTest(unittest.TestCase):
    """Point 12."""

    def test_one_table(self):
        for outlets, inlets in itertools.product(range(1, 7), repeat=2):
            table = filled(outlets, inlets)
            self.assertEqual(merged(table), table)
            self.assertEqual(merged(table, beside=False), table)
            self.assertEqual(merged(table, beside=True), table)

    def test_two_tables_as_joined(self):
        for outlets, more, inlets in itertools.product((1, 2, 3), repeat=3):
            one, two = filled(outlets, inlets), filled(more, inlets, 100)
            self.assertEqual(merged(one, two), join_outlets(one, two))
            self.assertEqual(merged(turned(one), turned(two), beside=True), join_inlets(turned(one), turned(two)))

    def test_several_tables(self):
        self.assertEqual(merged(W, ((7, 0),), ((1, 1),)), ((3, 5), (4, 2), (7, 0), (1, 1)))
        self.assertEqual(merged(((7, 0),), W, ((1, 1),), W), ((7, 0), (3, 5), (4, 2), (1, 1), (3, 5), (4, 2)))
        self.assertEqual(merged(((7,), (0,)), W, ((1,), (6,)), beside=True), ((7, 3, 5, 1), (0, 4, 2, 6)))
        self.assertEqual(merged(((1,),), ((2,),), ((3,),), ((4,),), ((5,),), ((6,),)), ((1,), (2,), (3,), (4,), (5,), (6,)))
        self.assertEqual(merged(((1,),), ((2,),), ((3,),), ((4,),), ((5,),), ((6,),), beside=True), ((1, 2, 3, 4, 5, 6),))

    def test_sizes_that_do_not_fit(self):
        for tables in ((W, ((7,),)), (((7,),), W), (W, W, ((1, 2, 3),)), (W, ((7,),), W), (((1,),), W, W)):
            with self.assertRaises(NoMatch):
                merged(*tables)
            with self.assertRaises(NoMatch):
                merged(*[turned(table) for table in tables], beside=True)

    def test_the_other_side_need_not_fit(self):
        self.assertEqual(merged(((1, 2),), ((3, 4), (5, 6))), ((1, 2), (3, 4), (5, 6)))
        self.assertEqual(merged(((1,), (2,)), ((3, 4), (5, 6)), beside=True), ((1, 3, 4), (2, 5, 6)))
        with self.assertRaises(NoMatch):
            merged(((1, 2),), ((3, 4), (5, 6)), beside=True)
        with self.assertRaises(NoMatch):
            merged(((1,), (2,)), ((3, 4), (5, 6)))

    def test_too_large(self):
        for tables in ((W, W, W, ((1, 1),)), (filled(6, 2), ((1, 1),)), (((1,),),) * 7, (filled(6, 6),) * 9):
            for beside in (False, True):
                given = [turned(table) if beside else table for table in tables]
                with self.assertRaises(TooMany) as caught:
                    merged(*given, beside=beside)
                self.assertEqual(caught.exception.limit, 6)

    def test_no_match_comes_before_too_many(self):
        tables = (filled(6, 2), filled(6, 2), filled(1, 3))
        with self.assertRaises(NoMatch):
            merged(*tables)
        with self.assertRaises(NoMatch):
            merged(*[turned(table) for table in tables], beside=True)

    def test_beside_is_passed_by_name(self):
        with self.assertRaises(NoMatch):
            merged(W, ((6,), (0,)))
        self.assertEqual(merged(W, ((6,), (0,)), beside=True), ((3, 5, 6), (4, 2, 0)))


if __name__ == "__main__":
    unittest.main()
