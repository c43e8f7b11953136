import random
import unittest

from tests.helper import ODD_VALUES, Unchanged, W, same_kinds, with_one_part_changed
from tests.model import ARGUMENTS, SlowSession, drawn_batch, drawn_state, is_batch, outcome_of, whole, whole_but_log
from widthmix.errors import NoOperations
from widthmix.limits import MAX_BATCH, MAX_OPERATIONS
from widthmix.sessions import GuardedSession, Session
from widthmix.solutions import certificate

RIGHT = {
    "add_inlet": ((6, 0),), "add_outlet": (6, (7, 0)), "remove_inlet": (1,), "remove_outlet": (0,), "set_want": (0, 9),
    "set_width": (0, 1, 0),
}


def begun():
    """A session with operations, a log and a note."""
    session = Session(W, (3, 4))
    session.set_want(0, 2)
    session.undo()
    session.set_want(1, 3)
    session.note = "begun"
    return session


class ApplyAllTest(unittest.TestCase):
    """Points 4 and 62."""

    def test_lists_and_tuples(self):
        operations = [("set_want", 0, 9), ("add_inlet", (6, 0)), ("remove_outlet", 1), ("set_width", 0, 2, 1)]
        for batch in (operations, tuple(operations)):
            session = Session(W, (3, 4))
            with Unchanged(self, batch):
                self.assertIsNone(session.apply_all(batch))
            self.assertEqual((session.table(), session.wants(), len(session)), (((3, 5, 1),), (9,), 4))
            self.assertEqual([session.wants(at=at) for at in range(5)], [(3, 4), (9, 4), (9, 4), (9,), (9,)])
            self.assertEqual(session.log(), tuple((operation[0], "done") for operation in operations))

    def test_each_operation_as_by_its_own_method(self):
        for name, arguments in RIGHT.items():
            one, other = Session(W, (3, 4)), Session(W, (3, 4))
            one.apply_all([(name, *arguments)])
            getattr(other, name)(*arguments)
            self.assertEqual(whole(one), whole(other))

    def test_empty_batch(self):
        for batch in ([], ()):
            for session in (begun(), Session(W, (3, 4), limit=0)):
                before = whole(session)
                self.assertIsNone(session.apply_all(batch))
                self.assertEqual(whole(session), before)

    def test_sizes(self):
        operation = ("set_want", 0, 9)
        for many in (1, MAX_BATCH - 1, MAX_BATCH):
            for kind in (list, tuple):
                session = Session(W, (3, 4))
                session.apply_all(kind([operation] * many))
                self.assertEqual((len(session), session.log()), (many, (("set_want", "done"),) * many))
        for many in (MAX_BATCH + 1, MAX_BATCH + 2, 60, 1000):
            for kind in (list, tuple):
                session = begun()
                before = whole(session)
                self.assertEqual(outcome_of(session.apply_all, kind([operation] * many)), ("NoOperations", ()))
                self.assertEqual(whole(session), before)

    def test_later_operations_see_earlier_ones(self):
        session = Session(((1,),), (1,))
        session.apply_all([("add_outlet", 2, (2,)), ("remove_outlet", 0), ("add_inlet", (3,)), ("remove_inlet", 0),
                           ("set_width", 0, 0, 4), ("set_want", 0, 5)])
        self.assertEqual((session.table(), session.wants()), (((4,),), (5,)))


class NoOperationsTest(unittest.TestCase):
    """Points 2, 62 and 63: values that are no batches, before all other checks."""

    def check(self, value):
        session = Session(W, (3, 4), limit=1)
        session.set_want(0, 2)
        before = whole(session)
        for method in (session.apply_all, session.preview):
            with Unchanged(self, value):
                name, arguments = outcome_of(method, value)
            if is_batch(value):
                self.assertNotEqual(name, "NoOperations", value)
            else:
                self.assertEqual((name, arguments), ("NoOperations", ()), value)
                self.assertEqual(whole(session), before)

    def test_odd_values(self):
        for value in ODD_VALUES:
            self.check(value)
            self.check([value])
            self.check((value,))
            self.check([("set_want", 0, 9), value])
            self.check([(value,)])
            self.check([(value, 0, 9)])
            self.check([("set_want", 0, 9), (value, 0, 9)])

    def test_one_part_changed(self):
        batch = (("set_want", 0, 9), ("remove_inlet", 1))
        for value in with_one_part_changed(batch, (*ODD_VALUES, "set_want", "set_width", "undo", "remove_inlet")):
            self.check(value)
            self.check(list(value) if isinstance(value, tuple) else value)

    def test_numbers_of_arguments(self):
        for name, many in ARGUMENTS.items():
            for given in range(6):
                operation = (name, *[0] * given)
                self.check([operation])
                self.assertEqual(is_batch([operation]), given == many)
                self.check([("set_want", 0, 9), operation])

    def test_names(self):
        for name in ("undo", "apply_all", "width", "want", "Set_want", "set_want ", "", "log", "table", "perform",
                     "clone", "annotate", "preview", "from_text", "greatest", b"set_want", 0, None, ("set_want",)):
            for arguments in ((), (0,), (0, 1), (0, 1, 2)):
                self.check([(name, *arguments)])

    def test_lists_in_place_of_tuples(self):
        self.check([["set_want", 0, 9]])
        self.check([("set_want", 0, 9), ["set_want", 0, 9]])
        self.check(("set_want", 0, 9))
        self.check({"set_want": (0, 9)})

    def test_before_all_other_checks(self):
        session = Session(W, (3, 4), limit=0)
        with self.assertRaises(NoOperations):
            session.apply_all([("set_want", 9, 9), ("set_want", 0)])
        self.assertEqual(session.log(), ())


class FailedTest(unittest.TestCase):
    """Points 62 and 63."""

    WRONG = (("set_width", 9, 0, 0), ("set_width", 0, 9, 0), ("set_width", 0, 0, None), ("set_want", True, 0),
             ("set_want", 0, -1), ("add_outlet", None, None), ("add_outlet", 0, [1, 2]), ("remove_outlet", 2),
             ("add_inlet", (1,)), ("remove_inlet", -1))

    def test_at_every_index(self):
        for many in (1, 2, 3, 7, MAX_BATCH):
            for index in {0, many // 2, many - 1}:
                for wrong in self.WRONG:
                    self.check(many, index, wrong)

    def check(self, many, index, wrong):
        batch = [("set_want", 0, number) for number in range(many)]
        batch[index] = wrong
        session = begun()
        before, log = whole_but_log(session), session.log()
        own, _ = outcome_of(getattr(begun(), wrong[0]), *wrong[1:])
        with Unchanged(self, batch):
            self.assertEqual(outcome_of(session.apply_all, batch), ("Failed", (index,)))
        self.assertEqual(session.log(), log + (("set_want", "reverted"),) * index + ((wrong[0], own),))
        self.assertEqual(whole_but_log(session), before)

    def test_too_many_within_a_batch(self):
        for limit in (0, 1, 2, 5, MAX_OPERATIONS):
            session = Session(W, (3, 4), limit=limit)
            while limit - len(session) > 5:
                session.set_want(0, 1)
            room, before, log = limit - len(session), whole_but_log(session), session.log()
            self.assertEqual(outcome_of(session.apply_all, [("set_want", 0, 7)] * 6), ("Failed", (room,)))
            self.assertEqual(session.log(), log + (("set_want", "reverted"),) * room + (("set_want", "TooMany"),))
            self.assertEqual(whole_but_log(session), before)
            session.apply_all([("set_want", 0, 7)] * room)
            self.assertEqual(len(session), limit)

    def test_first_failing_one_counts(self):
        session = Session(W, (3, 4))
        batch = [("set_want", 0, 9), ("set_want", 9, 9), ("remove_inlet", 9), ("set_want", 0, 8)]
        self.assertEqual(outcome_of(session.apply_all, batch), ("Failed", (1,)))
        self.assertEqual(session.log(), (("set_want", "reverted"), ("set_want", "NoOutlet")))

    def test_too_large_within_a_batch(self):
        session = Session(((1,),), (1,))
        self.assertEqual(outcome_of(session.apply_all, [("add_outlet", 1, (1,))] * 6), ("Failed", (5,)))
        self.assertEqual(outcome_of(session.apply_all, (("add_inlet", (1,)),) * 6), ("Failed", (5,)))
        self.assertEqual(outcome_of(session.apply_all, [("remove_outlet", 0)]), ("Failed", (0,)))
        self.assertEqual(session.log()[5], ("add_outlet", "TooMany"))
        self.assertEqual(session.log()[-1], ("remove_outlet", "LastOutlet"))

    def test_long_log_after_a_failure(self):
        session = Session(W, (3, 4))
        for _ in range(7):
            outcome_of(session.apply_all, [("set_want", 0, 9)] * 19 + [("set_want", 9, 9)])
        self.assertEqual(session.log(), ((("set_want", "reverted"),) * 19 + (("set_want", "NoOutlet"),)) * 5)


class PreviewTest(unittest.TestCase):
    """Point 68."""

    def test_result(self):
        session = begun()
        before = whole(session)
        for batch in ([], (), [("set_want", 0, 4), ("set_want", 1, 1)], (("set_width", 0, 0, 9), ("set_want", 1, 2))):
            other = session.clone()
            other.apply_all(batch)
            with Unchanged(self, batch):
                found = session.preview(batch)
            self.assertTrue(same_kinds(found, certificate(other.table(), other.wants())))
            self.assertEqual(whole(session), before)

    def test_failures_leave_everything(self):
        session = begun()
        before = whole(session)
        for wrong in FailedTest.WRONG:
            for index in (0, 3, MAX_BATCH - 1):
                batch = [("set_want", 0, 9)] * MAX_BATCH
                batch[index] = wrong
                self.assertEqual(outcome_of(session.preview, batch), ("Failed", (index,)))
                self.assertEqual(whole(session), before)
        for value in (None, [("undo",)], [("set_want", 0, 9)] * (MAX_BATCH + 1)):
            self.assertEqual(outcome_of(session.preview, value), ("NoOperations", ()))
            self.assertEqual(whole(session), before)

    def test_the_limit_counts(self):
        session = Session(W, (3, 4), limit=2)
        session.set_want(0, 1)
        before = whole(session)
        self.assertEqual(outcome_of(session.preview, [("set_want", 0, 7)] * 2), ("Failed", (1,)))
        self.assertEqual(session.preview([("set_want", 0, 3)]), certificate(W, (3, 4)))
        self.assertEqual(whole(session), before)

    def test_drawn_batches(self):
        source = random.Random(131)
        names = set()
        for number in range(400):
            guarded = number % 2 == 1
            table, wants = drawn_state(source, solvable=guarded)
            limit = source.choice((0, 2, 60, 60, 60))
            session = (GuardedSession if guarded else Session)(table, wants, limit=limit)
            model = SlowSession(table, wants, limit, guarded)
            batch = drawn_batch(source, (table, wants))
            expected = outcome_of(model.apply_all, batch)
            names.add(expected[0])
            before = whole(session)
            found = outcome_of(session.preview, batch)
            self.assertEqual(whole(session), before)
            if expected[0] == "done":
                self.assertEqual(found, ("done", certificate(*model.states[-1])))
            else:
                self.assertEqual(found, expected)
        self.assertEqual(names, {"done", "Failed"})


if __name__ == "__main__":
    unittest.main()
