"""What the document promises over the whole program: the same data through functions, sessions and consoles."""

import itertools
import random
import unittest

from tests.helper import W, crowded_tables, is_below, same_kinds, slow_levels, slow_minimal, small_cases
from tests.model import drawn_state, outcome_of, slow_greatest
from widthmix.agreement import agree_at, common_setting, fixed_setting, lowerings_hold
from widthmix.consoles import Console
from widthmix.costs import cheapest_solution, cost_of
from widthmix.limits import TOP
from widthmix.minimal import count_solutions, inlet_range, is_minimal, minimal_solutions, solution_at, solution_index
from widthmix.products import power, product, solve_product
from widthmix.sessions import GuardedSession, Session
from widthmix.solutions import (
    certificate, find_evidence, greatest_solution, is_certificate, is_evidence, is_solution, upper_setting,
)
from widthmix.tables import join_inlets, join_outlets, levels_of, remove_inlet, remove_outlet, turned
from widthmix.texts import format_data, format_setting, parse_data, parse_setting
from widthmix.tolerances import is_tolerance_certificate, least_tolerance, setting_within, tolerance_certificate


def drawn_states(seed, many):
    source = random.Random(seed)
    for number in range(many):
        yield drawn_state(source, greatest=(4, 9, TOP)[number % 3])


class OneDataTest(unittest.TestCase):
    """Points 1 to 3: functions, sessions, consoles and texts tell the same."""

    def states(self):
        yield from drawn_states(181, 250)
        yield from crowded_tables(182, 5, 2)

    def test_solutions(self):
        for table, wants in self.states():
            session = Session.from_text(format_data(table, wants))
            console = Console(session)
            self.assertTrue(same_kinds(parse_data(format_data(session.table(), session.wants())), (table, wants)))
            self.assertTrue(same_kinds(session.certificate(), certificate(table, wants)))
            self.assertIs(is_certificate(table, wants, session.certificate()), True)
            self.assertTrue(same_kinds(session.preview([]), session.certificate()))
            self.assertEqual(console.execute("count"), str(count_solutions(table, wants)))
            if find_evidence(table, wants) is None:
                self.check_solvable(table, wants, session, console)
            else:
                self.check_unsolvable(table, wants, session, console)

    def check_solvable(self, table, wants, session, console):
        greatest = greatest_solution(table, wants)
        self.assertEqual((slow_greatest(table, wants), upper_setting(table, wants)), (greatest, greatest))
        self.assertEqual((session.greatest(), session.certificate()), (greatest, ("setting", greatest)))
        self.assertEqual(parse_setting(console.execute("greatest")), greatest)
        minimal = minimal_solutions(table, wants)
        self.assertEqual(session.minimal(), minimal)
        self.assertEqual([parse_setting(text) for text in console.execute("minimal").split("; ")], list(minimal))
        self.assertEqual(console.execute("levels " + format_setting(greatest)), format_setting(wants))
        self.assertEqual(console.execute("evidence"), "none")
        self.assertEqual((session.gap, console.execute("tolerance")), (0, "0"))
        self.assertEqual(GuardedSession(table, wants).certificate(), ("setting", greatest))
        prices = (1,) * len(table[0])
        cost, cheapest = cheapest_solution(table, wants, prices)
        self.assertEqual(cost, min(cost_of(table, setting, prices) for setting in minimal))
        self.assertIs(is_minimal(table, wants, cheapest), True)
        self.assertEqual(solution_index(table, wants, greatest), count_solutions(table, wants) - 1)
        self.assertEqual(solution_at(table, wants, 0), minimal[0])
        self.assertEqual([inlet_range(table, wants, inlet)[1] for inlet in range(len(greatest))], list(greatest))

    def check_unsolvable(self, table, wants, session, console):
        self.assertIsNone(slow_greatest(table, wants))
        for call in (lambda: greatest_solution(table, wants), lambda: minimal_solutions(table, wants),
                     session.greatest, session.minimal, lambda: solution_at(table, wants, 0)):
            name, (evidence,) = outcome_of(call)
            self.assertEqual((name, is_evidence(table, wants, evidence)), ("NoSolution", True))
        name, (evidence,) = outcome_of(GuardedSession, table, wants)
        self.assertEqual((name, is_evidence(table, wants, evidence)), ("Blocked", True))
        words = [None if word == "-" else int(word) for word in console.execute("evidence").split(" ")]
        self.assertIs(is_evidence(table, wants, (words[0], tuple(words[1:]))), True)
        self.assertEqual((console.execute("greatest"), console.execute("minimal")), ("error NoSolution",) * 2)
        self.assertEqual(console.execute("count"), "0")
        self.assertGreater(session.gap, 0)

    def test_tolerances(self):
        for table, wants in self.states():
            session = Session(table, wants)
            least = least_tolerance(table, wants)
            self.assertEqual((session.gap, Console(session).execute("tolerance")), (least, str(least)))
            self.assertTrue(str(session).endswith(f", tolerance {least}"))
            self.assertTrue(same_kinds(session.tolerance(), tolerance_certificate(table, wants)))
            self.assertIs(is_tolerance_certificate(table, wants, session.tolerance()), True)
            self.assertEqual(session.tolerance()[1], setting_within(table, wants, least))
            # With the levels of that setting as wants there is a solution.
            self.assertEqual(Session(table, levels_of(table, session.tolerance()[1])).gap, 0)

    def test_solution_or_evidence_on_small_tables(self):
        for table, wants, _ in small_cases():
            session = Session(table, wants)
            word, proof = session.certificate()
            self.assertEqual(word == "setting", is_solution(table, wants, proof))
            self.assertEqual(word == "evidence", is_evidence(table, wants, proof))
            self.assertEqual(word == "setting", outcome_of(GuardedSession, table, wants)[0] == "done")

    def test_between_minimal_and_greatest(self):
        for table, wants in drawn_states(183, 60):
            session = Session(table, wants)
            if session.gap:
                continue
            self.assertEqual(list(session.minimal()), slow_minimal(table, wants))
            for setting in itertools.product(sorted({0, *wants[:2], TOP}), repeat=len(table[0])):
                between = is_below(setting, session.greatest()) and any(is_below(m, setting) for m in session.minimal())
                self.assertEqual(slow_levels(table, setting) == wants, between)


class OperationsTest(unittest.TestCase):
    """Operations of sessions beside the functions for tables."""

    def test_changes_as_by_functions(self):
        for table, wants in drawn_states(184, 100):
            outlets, inlets = len(table), len(table[0])
            for outlet, inlet in itertools.product(range(outlets), range(inlets)):
                session = Session(table, wants)
                self.same(session.remove_outlet, (outlet,), remove_outlet, (table, outlet), session)
                session = Session(table, wants)
                self.same(session.remove_inlet, (inlet,), remove_inlet, (table, inlet), session)
            session = Session(table, wants)
            self.same(session.add_outlet, (5, (1,) * inlets), join_outlets, (table, ((1,) * inlets,)), session)
            session = Session(table, wants)
            self.same(session.add_inlet, ((1,) * outlets,), join_inlets, (table, turned(((1,) * outlets,))), session)

    def same(self, method, arguments, function, given, session):
        expected = outcome_of(function, *given)
        found = outcome_of(method, *arguments)
        if expected[0] == "done":
            self.assertEqual((found, session.table()), (("done", None), expected[1]))
            self.assertEqual(len(session.wants()), len(session.table()))
        else:
            self.assertEqual(found, expected)

    def test_the_same_by_methods_batches_and_lines(self):
        one, two, three = (Session(W, (3, 4)) for _ in range(3))
        one.set_width(0, 1, 0)
        one.set_want(1, 3)
        one.add_outlet(6, (7, 0))
        one.add_inlet((6, 0, 1))
        one.remove_outlet(0)
        one.remove_inlet(0)
        two.apply_all([("set_width", 0, 1, 0), ("set_want", 1, 3), ("add_outlet", 6, (7, 0)), ("add_inlet", (6, 0, 1)),
                       ("remove_outlet", 0), ("remove_inlet", 0)])
        console = Console(three)
        for line in ("width 0 1 0", "want 1 3", "add_outlet 6 7 0", "add_inlet 6 0 1", "remove_outlet 0", "remove_inlet 0"):
            self.assertEqual(console.execute(line), "done")
        self.assertTrue(one == two == three)
        self.assertEqual((one.table(), one.wants()), (((2, 0), (0, 1)), (3, 6)))
        self.assertTrue(one.log() == two.log() == three.log())
        for at in range(7):
            self.assertTrue(one.table(at=at) == two.table(at=at) == three.table(at=at))
        while len(one):
            one.undo()
            two.undo()
            console.execute("undo")
            self.assertTrue(one == two == three)
        self.assertEqual(one, Session(W, (3, 4)))


class TablesTest(unittest.TestCase):
    """Points 3 (d) and (e), across the modules."""

    def test_products_in_sessions(self):
        source = random.Random(185)
        for _ in range(60):
            one, other = drawn_state(source)[0], drawn_state(source)[0]
            if len(one[0]) != len(other):
                self.assertEqual(outcome_of(product, one, other), ("NoMatch", ()))
                continue
            both = product(one, other)
            setting = tuple(source.randint(0, 9) for _ in other[0])
            self.assertEqual(Console(Session(both, (0,) * len(both))).execute("levels " + format_setting(setting)),
                             format_setting(levels_of(one, levels_of(other, setting))))
            found = solve_product(one, both)
            self.assertEqual(product(one, found), both)
            for inlet in range(len(other[0])):
                wants = tuple(row[inlet] for row in both)
                self.assertEqual(Session(one, wants).greatest(), tuple(row[inlet] for row in found))

    def test_fixed_settings_stay_fixed(self):
        for table, _ in drawn_states(186, 150):
            if len(table) != len(table[0]):
                continue
            fixed = fixed_setting(table, (TOP,) * len(table))
            self.assertEqual(levels_of(power(table, 10 ** 18), fixed), fixed)
            self.assertIs(is_solution(table, fixed, fixed), True)
            self.assertEqual(GuardedSession(table, fixed).gap, 0)

    def test_common_settings_give_both_tables_the_same_wants(self):
        source = random.Random(187)
        for _ in range(150):
            table, _ = drawn_state(source)
            other = tuple(tuple(source.choice((width, source.randint(0, 9))) for width in row) for row in table)
            common = common_setting(table, other, (TOP,) * len(table[0]))
            self.assertIs(agree_at(table, other, common), True)
            self.assertIs(lowerings_hold(table, other, common, ()), True)
            wants = levels_of(table, common)
            self.assertTrue(Session(table, wants).gap == Session(other, wants).gap == 0)
            # Both tables one below the other give the wants twice, and the greatest solution for them is below both.
            if 2 * len(table) <= 6:
                self.assertIs(is_solution(join_outlets(table, other), wants + wants, common), True)


if __name__ == "__main__":
    unittest.main()
