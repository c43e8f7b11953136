import itertools
import random
import unittest

from tests.helper import ODD_VALUES, W, all_tables, same_kinds
from tests.model import (
    SlowSession, drawn_operation, drawn_state, is_slow_evidence, outcome_of, slow_change, slow_greatest,
    whole_but_log,
)
from widthmix.errors import Blocked
from widthmix.limits import TOP
from widthmix.sessions import GuardedSession, Session
from widthmix.solutions import is_evidence
from widthmix.texts import format_data

# Operations that leave a table and wants without a solution.
BLOCKED = (
    (W, (3, 4), ("set_width", 1, 0, 3)),
    (W, (3, 4), ("set_want", 1, 5)),
    (W, (3, 4), ("add_outlet", 6, (1, 1))),
    (W, (3, 4), ("remove_inlet", 0)),
    (W, (3, 4), ("set_width", 0, 0, 9)),
    (((5, 5),), (5,), ("add_outlet", 0, (1, 1))),
)


class ConstructorTest(unittest.TestCase):
    """Point 54."""

    def test_small_tables(self):
        for table in all_tables(2, 2, 2):
            for wants in itertools.product(range(4), repeat=2):
                if slow_greatest(table, wants) is None:
                    with self.assertRaises(Blocked) as caught:
                        GuardedSession(table, wants)
                    self.assertTrue(is_slow_evidence(table, wants, caught.exception.evidence))
                else:
                    session = GuardedSession(table, wants)
                    self.assertEqual((session.table(), session.wants()), (table, wants))

    def test_order_of_the_exceptions(self):
        for value in ODD_VALUES:
            self.assertEqual(outcome_of(GuardedSession, value, (4, 1)), ("BadTable", ()))
            self.assertEqual(outcome_of(GuardedSession, W, value), ("NoWants", ()))
        self.assertEqual(outcome_of(GuardedSession, W, (4, 1)), ("Blocked", ((0, (None, 1)),)))

    def test_subclass(self):
        self.assertTrue(issubclass(GuardedSession, Session))
        self.assertIsInstance(GuardedSession(W, (3, 4)), Session)

    def test_edges(self):
        self.assertEqual(outcome_of(GuardedSession, ((0,),), (1,)), ("Blocked", ((0, (None,)),)))
        self.assertEqual(len(GuardedSession(((0,),), (0,))), 0)
        self.assertEqual(len(GuardedSession(((TOP,) * 6,) * 6, (TOP,) * 6, limit=0)), 0)


class OperationsTest(unittest.TestCase):
    """Points 3 (f) and 54."""

    def test_blocked_operations(self):
        for table, wants, operation in BLOCKED:
            session = GuardedSession(table, wants)
            before = whole_but_log(session)
            with self.assertRaises(Blocked) as caught:
                getattr(session, operation[0])(*operation[1:])
            resulting = slow_change((table, wants), operation)
            self.assertTrue(is_slow_evidence(*resulting, caught.exception.evidence), operation)
            self.assertEqual(whole_but_log(session), before)
            self.assertEqual(session.log(), ((operation[0], "Blocked"),))

    def test_an_added_inlet_and_a_removed_outlet_never_block(self):
        # An added inlet may have the level 0, and a removed outlet only asks for less.
        source = random.Random(141)
        for _ in range(300):
            table, wants = drawn_state(source, solvable=True)
            session = GuardedSession(table, wants)
            for name, *arguments in (drawn_operation(source, (table, wants)) for _ in range(4)):
                if name in ("add_inlet", "remove_outlet"):
                    self.assertNotEqual(outcome_of(getattr(session.clone(), name), *arguments)[0], "Blocked")

    def test_blocked_comes_last(self):
        session = GuardedSession(W, (3, 4), limit=0)
        self.assertEqual(outcome_of(session.set_want, 1, 5), ("TooMany", (0,)))
        session = GuardedSession(W, (3, 4))
        self.assertEqual(outcome_of(session.set_want, 2, 5), ("NoOutlet", (2,)))
        self.assertEqual(outcome_of(session.set_want, 1, TOP + 1), ("NoLevel", (TOP + 1,)))
        self.assertEqual(outcome_of(session.add_outlet, -1, (0, 0)), ("NoLevel", (-1,)))
        self.assertEqual(outcome_of(session.add_outlet, 9, (0,)), ("NoWidths", ()))
        self.assertEqual(outcome_of(session.add_outlet, 9, (0, 0))[0], "Blocked")
        full = GuardedSession(((5,),) * 6, (5,) * 6)
        self.assertEqual(outcome_of(full.add_outlet, 9, (0,)), ("TooMany", (6,)))
        self.assertEqual(outcome_of(full.remove_inlet, 0), ("LastInlet", ()))

    def test_drawn_operations(self):
        source = random.Random(142)
        blocked = 0
        for _ in range(150):
            table, wants = drawn_state(source, greatest=4, solvable=True)
            session, model = GuardedSession(table, wants), SlowSession(table, wants, guarded=True)
            for _ in range(25):
                operation = drawn_operation(source, model.states[-1], greatest=4)
                expected = outcome_of(model.perform, operation)
                found = outcome_of(getattr(session, operation[0]), *operation[1:])
                if expected[0] == "Blocked":
                    blocked += 1
                    self.assertEqual(found[0], "Blocked")
                    self.assertTrue(is_slow_evidence(*expected[1][0], *found[1]))
                    self.assertIs(is_evidence(*expected[1][0], *found[1]), True)
                else:
                    self.assertTrue(same_kinds(found, expected))
                self.assertEqual(session.certificate()[0], "setting")
                self.assertEqual(session.gap, 0)
                self.assertEqual(session.log(), model.log())
                self.assertEqual((session.table(), session.wants()), model.states[-1])
        self.assertGreater(blocked, 300)

    def test_solution_at_every_moment(self):
        source = random.Random(143)
        for _ in range(50):
            session = GuardedSession(*drawn_state(source, solvable=True))
            for _ in range(20):
                name, *arguments = drawn_operation(source, (session.table(), session.wants()))
                outcome_of(getattr(session, name), *arguments)
                if source.randrange(4) == 0:
                    outcome_of(session.undo)
            for at in (None, *range(len(session) + 1)):
                greatest = slow_greatest(session.table(at=at), session.wants(at=at))
                self.assertIsNotNone(greatest)
                self.assertEqual(session.greatest(at=at), greatest)
                self.assertEqual(session.certificate(at=at), ("setting", greatest))

    def test_plain_sessions_are_not_blocked(self):
        for table, wants, operation in BLOCKED:
            session = Session(table, wants)
            self.assertEqual(outcome_of(getattr(session, operation[0]), *operation[1:]), ("done", None))


class BatchTest(unittest.TestCase):
    """Points 54, 62, 63 and 68."""

    def test_each_operation_of_a_batch_is_checked(self):
        for method in ("apply_all", "preview"):
            session = GuardedSession(W, (3, 4))
            before = whole_but_log(session)
            # After both operations there would be a solution again.
            batch = [("set_want", 1, 5), ("set_want", 1, 4)]
            self.assertEqual(outcome_of(getattr(session, method), batch), ("Failed", (0,)))
            batch = [("set_want", 1, 4), ("set_width", 0, 1, 2), ("set_want", 1, 5), ("set_want", 1, 4)]
            self.assertEqual(outcome_of(getattr(session, method), batch), ("Failed", (2,)))
            self.assertEqual(whole_but_log(session), before)

    def test_log(self):
        session = GuardedSession(W, (3, 4))
        outcome_of(session.apply_all, [("set_want", 1, 4), ("set_want", 1, 5), ("set_want", 1, 4)])
        self.assertEqual(session.log(), (("set_want", "reverted"), ("set_want", "Blocked")))

    def test_batches_that_keep_a_solution(self):
        session = GuardedSession(W, (3, 4))
        batch = [("add_inlet", (0, 9)), ("set_want", 1, 5), ("set_width", 1, 0, 5)]
        found = session.preview(batch)
        session.apply_all(batch)
        self.assertEqual(session.certificate(), found)
        self.assertEqual((found[0], len(session)), ("setting", 3))


class FromTextTest(unittest.TestCase):
    """Point 69."""

    def test_drawn_data(self):
        source = random.Random(144)
        for _ in range(200):
            table, wants = drawn_state(source)
            text = format_data(table, wants)
            session = Session.from_text(text)
            self.assertIs(type(session), Session)
            self.assertTrue(same_kinds((session.table(), session.wants(), len(session), session.log(), session.note),
                                       (table, wants, 0, (), "")))
            if slow_greatest(table, wants) is None:
                with self.assertRaises(Blocked) as caught:
                    GuardedSession.from_text(text)
                self.assertTrue(is_slow_evidence(table, wants, caught.exception.evidence))
            else:
                guarded = GuardedSession.from_text(text)
                self.assertIs(type(guarded), GuardedSession)
                self.assertEqual(guarded, GuardedSession(table, wants))

    def test_bad_text(self):
        for made in (Session, GuardedSession):
            for value in ODD_VALUES:
                if value == "3: 3 5\n4: 4 2\n":
                    continue
                self.assertEqual(outcome_of(made.from_text, value), ("BadText", (0 if isinstance(value, str) else None,)))
            self.assertEqual(outcome_of(made.from_text, "3: 3 5\n4: 4\n"), ("BadText", (1,)))
            # There would be no solution, either.
            self.assertEqual(outcome_of(made.from_text, "9: 3 5\n4: 4\n"), ("BadText", (1,)))

    def test_limit(self):
        session = Session.from_text("3: 3 5\n4: 4 2\n")
        for _ in range(60):
            session.set_want(0, 1)
        self.assertEqual(outcome_of(session.set_want, 0, 1), ("TooMany", (60,)))

    def test_on_objects(self):
        for made in (Session, GuardedSession):
            session = made(W, (3, 4)).from_text("0: 1\n")
            self.assertIs(type(session), made)
            self.assertEqual((session.table(), session.wants()), (((1,),), (0,)))


if __name__ == "__main__":
    unittest.main()
