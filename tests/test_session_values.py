import random
import unittest

from tests.helper import ODD_VALUES, W, filled
from tests.model import drawn_operation, drawn_state, outcome_of, whole
from widthmix.errors import NoNote
from widthmix.limits import MAX_OPERATIONS, TOP
from widthmix.sessions import GuardedSession, Session
from widthmix.tolerances import least_tolerance

NAMES = ("add_inlet", "add_outlet", "remove_inlet", "remove_outlet", "set_want", "set_width")


class CloneTest(unittest.TestCase):
    """Points 67 and 71."""

    def begun(self, made, limit=60):
        session = made(W, (3, 4), limit=limit)
        session.set_width(0, 1, 0)
        outcome_of(session.set_want, 5, 5)
        session.note = "first"
        return session

    def test_the_same_in_all_respects(self):
        for made in (Session, GuardedSession):
            session = self.begun(made)
            twin = session.clone()
            self.assertIs(type(twin), made)
            self.assertIsNot(twin, session)
            self.assertEqual(twin, session)
            self.assertEqual(whole(twin), whole(session))

    def test_the_limit_is_cloned(self):
        for limit in (1, 2, 3):
            twin = self.begun(Session, limit).clone()
            for _ in range(limit - 1):
                twin.set_want(0, 1)
            self.assertEqual(outcome_of(twin.set_want, 0, 1), ("TooMany", (limit,)))
            twin.undo()
            self.assertEqual(outcome_of(twin.set_want, 0, 1), ("done", None))

    def test_independent_afterwards(self):
        changes = (("undo",), ("set_width", 0, 1, 1), ("apply_all", [("set_width", 0, 1, 1)] * 3), ("set_want", 9, 9),
                   ("apply_all", [("set_width", 0, 1, 1), ("set_want", 9, 1)]), ("annotate", "second"))
        for made in (Session, GuardedSession):
            for name, *arguments in changes:
                session = self.begun(made)
                twin = session.clone()
                before = whole(twin)
                outcome_of(getattr(session, name), *arguments)
                self.assertNotEqual(whole(session), before)
                self.assertEqual(whole(twin), before)
                third = session.clone()
                before = whole(session)
                outcome_of(getattr(third, name), *arguments)
                self.assertEqual(whole(session), before)

    def test_operations_of_a_clone_can_be_undone(self):
        session = self.begun(Session)
        twin = session.clone()
        twin.undo()
        self.assertEqual((twin.table(), len(twin), len(session)), (W, 0, 1))
        self.assertEqual(outcome_of(twin.undo), ("NothingToUndo", ()))
        self.assertEqual(session.table(), ((3, 0), (4, 2)))

    def test_clones_of_guarded_sessions_stay_guarded(self):
        twin = GuardedSession(W, (3, 4)).clone()
        self.assertEqual(outcome_of(twin.set_want, 1, 5)[0], "Blocked")
        self.assertEqual(outcome_of(Session(W, (3, 4)).clone().set_want, 1, 5), ("done", None))

    def test_clones_that_go_apart(self):
        source = random.Random(151)
        for _ in range(30):
            sessions = [Session(*drawn_state(source))]
            states = [whole(sessions[0])]
            for _ in range(30):
                number = source.randrange(len(sessions))
                if source.randrange(5) == 0:
                    sessions.append(sessions[number].clone())
                    states.append(states[number])
                else:
                    session = sessions[number]
                    name, *arguments = drawn_operation(source, (session.table(), session.wants()))
                    outcome_of(getattr(session, name), *arguments)
                    states[number] = whole(session)
                self.assertEqual([whole(session) for session in sessions], states)


class EqualityTest(unittest.TestCase):
    """Point 72."""

    def test_tables_and_wants_count(self):
        session = Session(W, (3, 4))
        self.assertTrue(session == Session(W, (3, 4)))
        self.assertFalse(session != Session(W, (3, 4)))
        for other in (Session(W, (3, 5)), Session(((3, 5), (4, 1)), (3, 4)), Session(((3, 5),), (3,))):
            self.assertFalse(session == other)
            self.assertTrue(session != other)

    def test_only_the_current_state_counts(self):
        one, other = Session(W, (3, 4)), Session(W, (9, 4), limit=5)
        other.set_want(0, 3)
        other.note = "other"
        outcome_of(one.undo)
        self.assertTrue(one == other)
        other.undo()
        self.assertFalse(one == other)
        self.assertEqual(other, Session(W, (9, 4)))

    def test_both_or_neither_are_guarded(self):
        plain, guarded = Session(W, (3, 4)), GuardedSession(W, (3, 4))
        self.assertFalse(plain == guarded)
        self.assertFalse(guarded == plain)
        self.assertTrue(plain != guarded)
        self.assertTrue(guarded != plain)
        self.assertTrue(guarded == GuardedSession(W, (3, 4)))
        self.assertFalse(guarded == GuardedSession(W, (0, 0)))

    def test_other_values(self):
        for session in (Session(W, (3, 4)), GuardedSession(W, (3, 4))):
            for value in (*ODD_VALUES, W, (W, (3, 4)), str(session), 0, object(), Session, GuardedSession):
                self.assertIs(session == value, False)
                self.assertIs(value == session, False)
                self.assertIs(session != value, True)
            self.assertIs(session == session, True)


class TextAndLengthTest(unittest.TestCase):
    """Point 72."""

    def test_text(self):
        self.assertEqual(str(Session(((5,),), (5,))), "1 outlets, 1 inlets, tolerance 0")
        self.assertEqual(str(Session(W, (4, 1))), "2 outlets, 2 inlets, tolerance 1")
        self.assertEqual(str(Session(((0, 0, 0),), (TOP,))), f"1 outlets, 3 inlets, tolerance {TOP}")
        self.assertEqual(str(Session(filled(6, 6), (0,) * 6)), "6 outlets, 6 inlets, tolerance 0")
        self.assertEqual(str(GuardedSession(((5, 1),), (5,))), "guarded, 1 outlets, 2 inlets, tolerance 0")

    def test_drawn_sessions(self):
        source = random.Random(152)
        for _ in range(200):
            table, wants = drawn_state(source)
            session = Session(table, wants)
            expected = f"{len(table)} outlets, {len(table[0])} inlets, tolerance {least_tolerance(table, wants)}"
            self.assertEqual(str(session), expected)
            if session.gap == 0:
                self.assertEqual(str(GuardedSession(table, wants)), "guarded, " + expected)

    def test_current_state(self):
        session = Session(W, (3, 4))
        session.add_inlet((0, 0))
        session.set_want(0, 9)
        self.assertEqual((str(session), len(session)), ("2 outlets, 3 inlets, tolerance 4", 2))
        session.undo()
        self.assertEqual((str(session), len(session)), ("2 outlets, 3 inlets, tolerance 0", 1))

    def test_reading_changes_nothing(self):
        session = Session(W, (4, 1))
        session.set_want(0, 9)
        before = whole(session)
        for _ in range(3):
            self.assertEqual(whole(session), before)
            self.assertEqual((session.gap, session == session, session.operation_names()), (4, True, NAMES))


class ValuesTest(unittest.TestCase):
    """Points 70 and 71."""

    def test_limit(self):
        self.assertEqual((Session.LIMIT, GuardedSession.LIMIT), (MAX_OPERATIONS, MAX_OPERATIONS))
        self.assertEqual((Session(W, (3, 4), limit=5).LIMIT, type(Session.LIMIT)), (60, int))

    def test_operation_names(self):
        for source in (Session, GuardedSession, Session(W, (3, 4)), GuardedSession(W, (3, 4))):
            self.assertEqual(source.operation_names(), NAMES)
        self.assertIs(type(Session.operation_names()), tuple)
        for name in NAMES:
            self.assertTrue(callable(getattr(Session, name)))

    def test_gap(self):
        source = random.Random(153)
        for _ in range(100):
            session = Session(*drawn_state(source))
            self.assertEqual(session.gap, session.tolerance()[0])
            session.set_want(0, TOP)
            self.assertEqual(session.gap, least_tolerance(session.table(), session.wants()))
            session.undo()
            self.assertEqual(session.gap, session.tolerance(at=0)[0])

    def test_gap_cannot_be_assigned(self):
        for session in (Session(W, (4, 1)), GuardedSession(W, (3, 4))):
            before = session.gap
            with self.assertRaises(AttributeError):
                session.gap = 7
            self.assertEqual(session.gap, before)


class NoteTest(unittest.TestCase):
    """Point 71."""

    def ways(self):
        yield lambda session, value: setattr(session, "note", value)
        yield lambda session, value: session.annotate(value)

    def test_notes(self):
        for made in (Session, GuardedSession):
            for assign in self.ways():
                session = made(W, (3, 4))
                self.assertEqual(session.note, "")
                for note in ("a", "", "x" * 19, "x" * 20, " " * 20, "\n" * 20, "~!"):
                    self.assertIsNone(assign(session, note))
                    self.assertEqual(session.note, note)

    def test_other_values(self):
        for made in (Session, GuardedSession):
            for assign in self.ways():
                session = made(W, (3, 4))
                session.note = "first"
                before = whole(session)
                for value in ("x" * 21, "x" * 22, " " * 21, 7, 0, b"first", *ODD_VALUES):
                    if isinstance(value, str) and len(value) <= 20:
                        continue
                    with self.assertRaises(NoNote) as caught:
                        assign(session, value)
                    self.assertIs(caught.exception.note, value)
                    self.assertEqual(whole(session), before)

    def test_operations_do_not_change_the_note(self):
        session = Session(W, (3, 4))
        session.note = "first"
        session.set_want(0, 5)
        session.apply_all([("set_want", 0, 6), ("set_want", 0, 7)])
        session.undo()
        session.preview([("set_want", 0, 6)])
        outcome_of(session.apply_all, [("set_want", 9, 9)])
        outcome_of(session.apply_all, None)
        self.assertEqual(session.note, "first")

    def test_undo_does_not_bring_back_a_note(self):
        session = Session(W, (3, 4))
        session.note = "first"
        session.set_want(0, 5)
        session.note = "second"
        session.undo()
        self.assertEqual(session.note, "second")
        self.assertEqual((len(session), session.log()), (0, (("set_want", "done"), ("undo", "done"))))

    def test_each_clone_has_its_own_note(self):
        session = Session(W, (3, 4))
        session.note = "first"
        twin = session.clone()
        self.assertEqual(twin.note, "first")
        twin.annotate("second")
        self.assertEqual((session.note, twin.note), ("first", "second"))
        session.note = ""
        self.assertEqual((session.note, twin.note), ("", "second"))

    def test_equality_and_text_do_not_depend_on_notes(self):
        one, other = Session(W, (3, 4)), Session(W, (3, 4))
        one.note = "first"
        self.assertEqual((one == other, str(one) == str(other)), (True, True))


if __name__ == "__main__":
    unittest.main()
