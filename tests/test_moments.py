import itertools
import random
import unittest

from tests.helper import ODD_VALUES, Unchanged, W, same_kinds
from tests.model import SlowSession, drawn_batch, drawn_operation, drawn_state, is_slow_evidence, outcome_of, whole
from widthmix.errors import NoMoment, NoSolution
from widthmix.limits import LOG_SIZE, TOP
from widthmix.minimal import minimal_solutions
from widthmix.sessions import GuardedSession, Session
from widthmix.solutions import certificate, greatest_solution
from widthmix.tolerances import least_tolerance, tolerance_certificate

QUERIES = ("table", "wants", "certificate", "tolerance", "greatest", "minimal")


def step(source, state):
    """A call on a session and on the model: an operation, an undo, a batch, a preview, or a batch that is none."""
    kind = source.randrange(10)
    if kind < 5:
        name, *arguments = operation = drawn_operation(source, state)
        return lambda session: getattr(session, name)(*arguments), lambda model: model.perform(operation)
    if kind < 7:
        return lambda session: session.undo(), lambda model: model.undo()
    if kind < 9:
        operations = drawn_batch(source, state)
        return lambda session: session.apply_all(operations), lambda model: model.apply_all(operations)
    value = source.choice(ODD_VALUES)
    return lambda session: session.apply_all(value), lambda model: model.apply_all(value)


class DrawnTest(unittest.TestCase):
    """Points 3 (f) and 52 to 64: drawn sequences beside a list of all states."""

    def check_outcome(self, found, expected):
        if expected[0] == "Blocked":
            self.assertEqual(found[0], "Blocked")
            self.assertTrue(is_slow_evidence(*expected[1][0], found[1][0]))
        else:
            self.assertTrue(same_kinds(found, expected), (found, expected))

    def check_states(self, session, model):
        self.assertEqual(len(session), len(model.states) - 1)
        for at, (table, wants) in enumerate(model.states):
            self.assertTrue(same_kinds((session.table(at=at), session.wants(at=at)), (table, wants)))
        self.assertTrue(same_kinds((session.table(), session.wants()), model.states[-1]))
        self.assertEqual(session.log(), model.log())

    def test_sequences(self):
        source = random.Random(121)
        outcomes = set()
        for number in range(120):
            guarded, limit = number % 2 == 1, source.choice((0, 1, 3, 10, 60, 60))
            table, wants = drawn_state(source, solvable=guarded)
            session = (GuardedSession if guarded else Session)(table, wants, limit=limit)
            model = SlowSession(table, wants, limit, guarded)
            for _ in range(40):
                on_session, on_model = step(source, model.states[-1])
                found, expected = outcome_of(on_session, session), outcome_of(on_model, model)
                outcomes.add(found[0])
                self.check_outcome(found, expected)
                self.check_states(session, model)
        self.assertLessEqual({"done", "TooMany", "NoOutlet", "NoInlet", "NoLevel", "NoWidths", "NothingToUndo",
                              "NoOperations", "Failed", "Blocked", "LastOutlet", "LastInlet"}, outcomes)


class UndoTest(unittest.TestCase):
    """Points 3 (f) and 61."""

    def test_undo_everything(self):
        source = random.Random(122)
        for _ in range(40):
            session = Session(*drawn_state(source))
            states = [(session.table(), session.wants())]
            while len(states) < 30:
                operation = drawn_operation(source, states[-1])
                if outcome_of(getattr(session, operation[0]), *operation[1:])[0] == "done":
                    states.append((session.table(), session.wants()))
            for state in reversed(states[:-1]):
                self.assertIsNone(session.undo())
                self.assertTrue(same_kinds((session.table(), session.wants()), state))
            self.assertEqual(outcome_of(session.undo), ("NothingToUndo", ()))
            self.assertTrue(same_kinds((session.table(), session.wants(), len(session)), (*states[0], 0)))

    def test_each_operation(self):
        for name, *arguments in (("set_width", 0, 1, 9), ("set_want", 1, 9), ("add_outlet", 6, (7, 0)),
                                 ("remove_outlet", 0), ("add_inlet", (6, 0)), ("remove_inlet", 1)):
            session = Session(W, (3, 4))
            getattr(session, name)(*arguments)
            self.assertNotEqual((session.table(), session.wants()), (W, (3, 4)))
            session.undo()
            self.assertEqual((session.table(), session.wants(), len(session)), (W, (3, 4), 0))
            self.assertEqual(session.log(), ((name, "done"), ("undo", "done")))

    def test_undo_after_a_batch_reverts_one_operation(self):
        session = Session(W, (3, 4))
        session.apply_all([("set_want", 0, 9), ("remove_inlet", 1), ("set_want", 1, 8)])
        self.assertEqual(len(session), 3)
        session.undo()
        self.assertEqual((session.wants(), session.table()), ((9, 4), ((3,), (4,))))
        session.undo()
        self.assertEqual((session.wants(), session.table()), ((9, 4), W))

    def test_nothing_to_undo_changes_only_the_log(self):
        session = Session(W, (3, 4), limit=0)
        for many in range(1, 4):
            self.assertEqual(outcome_of(session.undo), ("NothingToUndo", ()))
            self.assertEqual(session.log(), (("undo", "NothingToUndo"),) * many)
            self.assertEqual((session.table(), session.wants(), len(session)), (W, (3, 4), 0))

    def test_what_was_undone_is_no_moment(self):
        session = Session(W, (3, 4))
        session.set_want(0, 5)
        session.undo()
        self.assertEqual(outcome_of(session.wants, at=1), ("NoMoment", (1,)))
        session.set_want(0, 6)
        self.assertEqual(session.wants(at=1), (6, 4))


class MomentsTest(unittest.TestCase):
    """Points 52 and 64 to 66: the queries with at."""

    def sessions(self):
        session = Session(W, (3, 4))
        yield session.clone()
        session.set_want(1, 1)
        session.set_want(0, 4)
        session.add_inlet((6, 0))
        session.remove_outlet(0)
        yield session
        guarded = GuardedSession(W, (3, 4))
        guarded.set_width(0, 1, 0)
        yield guarded

    def test_moments(self):
        for session in self.sessions():
            before = whole(session)
            for at in (None, *range(len(session) + 1)):
                self.check_queries(session, at)
            self.assertEqual(whole(session), before)

    def check_queries(self, session, at):
        table, wants = session.table(at=at), session.wants(at=at)
        self.assertTrue(same_kinds(session.certificate(at=at), certificate(table, wants)))
        self.assertTrue(same_kinds(session.tolerance(at=at), tolerance_certificate(table, wants)))
        self.assertEqual(outcome_of(session.greatest, at=at), outcome_of(greatest_solution, table, wants))
        self.assertEqual(outcome_of(session.minimal, at=at), outcome_of(minimal_solutions, table, wants))

    def test_current_state_without_at(self):
        for session in self.sessions():
            for name in QUERIES:
                query = getattr(session, name)
                self.assertEqual(outcome_of(query), outcome_of(query, at=None))
                self.assertEqual(outcome_of(query), outcome_of(query, at=len(session)))

    def test_no_moment(self):
        for session, name in itertools.product(list(self.sessions()), QUERIES):
            before = session.log()
            beyond = len(session) + 1
            for at in (beyond, beyond + 1, 61, -1, -len(session) - 1, TOP, (0,), [0], *ODD_VALUES[1:]):
                with Unchanged(self, at), self.assertRaises(NoMoment) as caught:
                    getattr(session, name)(at=at)
                self.assertIs(caught.exception.at, at)
            self.assertEqual(session.log(), before)

    def test_no_moment_comes_before_no_solution(self):
        session = Session(W, (4, 1))
        for query in (session.greatest, session.minimal):
            with self.assertRaises(NoSolution):
                query()
            with self.assertRaises(NoSolution):
                query(at=0)
            for at in (1, True, False, "0"):
                with self.assertRaises(NoMoment):
                    query(at=at)

    def test_no_solution_at_a_moment(self):
        session = Session(W, (3, 4))
        session.set_want(1, 1)
        session.set_want(0, 4)
        session.set_want(1, 4)
        session.set_want(0, 3)
        for at in range(5):
            table, wants = session.table(at=at), session.wants(at=at)
            name, proof = session.certificate(at=at)
            if name == "setting":
                self.assertEqual(session.greatest(at=at), proof)
            else:
                for query in (session.greatest, session.minimal):
                    with self.assertRaises(NoSolution) as caught:
                        query(at=at)
                    self.assertTrue(is_slow_evidence(table, wants, caught.exception.evidence))
        self.assertEqual([session.certificate(at=at)[0] for at in (0, 2, 4)], ["setting", "evidence", "setting"])

    def test_at_is_passed_by_name(self):
        session = Session(W, (3, 4))
        for name in QUERIES:
            with self.assertRaises(TypeError):
                getattr(session, name)(0)

    def test_drawn_sessions(self):
        source = random.Random(123)
        for _ in range(40):
            session = Session(*drawn_state(source))
            for _ in range(8):
                name, *arguments = drawn_operation(source, (session.table(), session.wants()))
                outcome_of(getattr(session, name), *arguments)
            for at in (None, *range(len(session) + 1)):
                self.check_queries(session, at)
            self.assertEqual(session.gap, least_tolerance(session.table(), session.wants()))


class LogTest(unittest.TestCase):
    """Points 4 and 63."""

    def test_words_and_outcomes(self):
        session = Session(W, (3, 4), limit=3)
        session.set_width(0, 0, 1)
        outcome_of(session.set_width, 9, 9, None)
        outcome_of(session.set_width, 0, 9, None)
        outcome_of(session.set_width, 0, 0, None)
        outcome_of(session.set_want, 0, -1)
        outcome_of(session.add_outlet, 0, None)
        outcome_of(session.add_inlet, None)
        session.remove_inlet(1)
        outcome_of(session.remove_inlet, 0)
        session.remove_outlet(1)
        outcome_of(session.remove_outlet, 0)
        session.undo()
        self.assertEqual(session.log(), (
            ("set_width", "done"), ("set_width", "NoOutlet"), ("set_width", "NoInlet"), ("set_width", "NoLevel"),
            ("set_want", "NoLevel"), ("add_outlet", "NoWidths"), ("add_inlet", "NoWidths"), ("remove_inlet", "done"),
            ("remove_inlet", "LastInlet"), ("remove_outlet", "done"), ("remove_outlet", "TooMany"), ("undo", "done")))

    def test_more_than_log_size_entries(self):
        session = Session(W, (3, 4))
        expected = []
        for number in range(2 * LOG_SIZE + 10):
            call = (session.undo, session.undo, lambda: session.set_want(0, 1), lambda: session.set_want(2, 1))[number % 4]
            name, _ = outcome_of(call)
            expected.append((("undo", "undo", "set_want", "set_want")[number % 4], name))
            self.assertEqual(session.log(), tuple(expected[-LOG_SIZE:]))
        self.assertEqual(len(session.log()), 100)
        self.assertEqual({name for _, name in expected}, {"done", "NoOutlet", "NothingToUndo"})

    def test_batches_count_in_the_log(self):
        session = Session(W, (3, 4))
        for _ in range(3):
            session.apply_all([("set_want", 0, 1)] * 20)
        for _ in range(60):
            session.undo()
        self.assertEqual(session.log(), (("set_want", "done"),) * 40 + (("undo", "done"),) * 60)

    def test_what_is_not_recorded(self):
        session = Session(W, (4, 1))
        session.note = "a"
        session.annotate("b")
        outcome_of(session.annotate, 7)
        outcome_of(session.apply_all, None)
        outcome_of(session.apply_all, [("undo",)])
        session.apply_all([])
        for name in QUERIES:
            outcome_of(getattr(session, name))
            outcome_of(getattr(session, name), at=9)
        session.preview([("set_want", 0, 1)])
        outcome_of(session.preview, [("set_want", 9, 1)])
        outcome_of(session.preview, None)
        session.clone().set_want(0, 1)
        self.assertEqual((str(session), len(session)), ("2 outlets, 2 inlets, tolerance 1", 0))
        self.assertEqual((session == session.clone(), session.gap), (True, 1))
        self.assertEqual(session.log(), ())

    def test_a_log_that_was_returned_stays_as_it_is(self):
        session = Session(W, (3, 4))
        session.set_want(0, 1)
        log = session.log()
        session.undo()
        self.assertEqual(log, (("set_want", "done"),))
        self.assertIs(type(session.log()), tuple)


if __name__ == "__main__":
    unittest.main()
