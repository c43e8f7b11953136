import itertools
import random
import unittest

from tests.helper import ODD_VALUES, Unchanged, W, filled, same_kinds
from tests.model import SlowSession, drawn_operation, drawn_state, outcome_of, slow_change, whole_but_log
from widthmix.errors import BadTable, NoWants, TooMany
from widthmix.limits import MAX_OPERATIONS, TOP
from widthmix.sessions import GuardedSession, Session
from widthmix.tables import is_table

SIZES = list(itertools.product(range(1, 7), repeat=2))
# Numbers of outlets and inlets, levels and tuples of levels, right and wrong ones for a table of two by three.
GIVEN = (0, 1, 2, 3, 5, TOP, (1, 2), (1, 2, 3), (TOP, 0), (TOP, 0, TOP), [1, 2], [1, 2, 3], (1, 2, 3, 4), (True, 2),
         (True, 2, 3), (-1, 2), (1, 2, TOP + 1), *ODD_VALUES)


def state_of(session):
    return session.table(), session.wants()


def call(session, operation):
    name, *arguments = operation
    return outcome_of(getattr(session, name), *arguments)


class ConstructorTest(unittest.TestCase):
    """Points 2, 53 and 54."""

    def test_all_sizes(self):
        for outlets, inlets in SIZES:
            table = filled(outlets, inlets)
            for wants in ((0,) * outlets, (TOP,) * outlets):
                session = Session(table, wants)
                self.assertTrue(same_kinds(state_of(session), (table, wants)))
                self.assertEqual((len(session), session.log(), session.note), (0, (), ""))

    def test_bad_table(self):
        for made in (Session, GuardedSession):
            for table in (*ODD_VALUES, ((1,) * 7,), ((1,),) * 7, ((), ()), ((1, 2), (3,)), 5, (5,)):
                for wants in ((3, 4), (), None):
                    with Unchanged(self, table, wants), self.assertRaises(BadTable):
                        made(table, wants)

    def test_no_wants(self):
        for made in (Session, GuardedSession):
            for wants in (*ODD_VALUES, (3,), (3, 4, 0), [3, 4], (True, 4), (3, -1), (3, TOP + 1), 3, ((3,), (4,))):
                with Unchanged(self, wants), self.assertRaises(NoWants):
                    made(W, wants)

    def test_limit_is_passed_by_name(self):
        for made in (Session, GuardedSession):
            with self.assertRaises(TypeError):
                made(W, (3, 4), 5)
            self.assertEqual(len(made(W, (3, 4), limit=5)), 0)


class EffectTest(unittest.TestCase):
    """Points 52 and 55 to 60: what each operation makes of the table and the wants."""

    def check(self, session, operation):
        expected = slow_change(state_of(session), operation)
        self.assertEqual(call(session, operation), ("done", None), operation)
        self.assertTrue(same_kinds(state_of(session), expected), operation)
        self.assertIs(is_table(session.table()), True)

    def test_every_place_of_all_sizes(self):
        for outlets, inlets in SIZES:
            table, wants = filled(outlets, inlets), tuple(range(outlets))
            operations = [("set_width", outlet, inlet, 77) for outlet in range(outlets) for inlet in range(inlets)]
            operations += [("set_want", outlet, 77) for outlet in range(outlets)]
            operations += [("remove_outlet", outlet) for outlet in range(outlets if outlets > 1 else 0)]
            operations += [("remove_inlet", inlet) for inlet in range(inlets if inlets > 1 else 0)]
            operations += [("add_outlet", 77, tuple(range(80, 80 + inlets)))] if outlets < 6 else []
            operations += [("add_inlet", tuple(range(80, 80 + outlets)))] if inlets < 6 else []
            for operation in operations:
                self.check(Session(table, wants), operation)

    def test_levels_at_the_edges(self):
        for level in (0, 1, TOP - 1, TOP):
            for operation in (("set_width", 1, 0, level), ("set_want", 1, level), ("add_outlet", level, (level, 0)),
                              ("add_inlet", (0, level))):
                self.check(Session(W, (3, 4)), operation)

    def test_a_change_to_the_same_counts(self):
        session = Session(W, (3, 4))
        session.set_width(0, 0, 3)
        session.set_want(0, 3)
        self.assertEqual((len(session), state_of(session)), (2, (W, (3, 4))))

    def test_drawn_operations_one_after_the_other(self):
        source = random.Random(111)
        for _ in range(60):
            session = Session(*drawn_state(source))
            model = SlowSession(*state_of(session))
            for _ in range(60):
                operation = drawn_operation(source, state_of(session))
                with Unchanged(self, operation):
                    found = call(session, operation)
                self.assertTrue(same_kinds(found, outcome_of(model.perform, operation)), operation)
                self.assertTrue(same_kinds(state_of(session), model.states[-1]))
                self.assertEqual((len(session), session.log()), (len(model.states) - 1, model.log()))


class ArgumentsTest(unittest.TestCase):
    """Points 2, 52, 55 to 60 and 81: every combination of right and wrong arguments."""

    def check(self, operation):
        table, wants = ((3, 5, 1), (4, 2, 0)), (3, 4)
        session = Session(table, wants)
        before = whole_but_log(session)
        name, arguments = outcome_of(SlowSession(table, wants).perform, operation)
        with Unchanged(self, operation):
            found = call(session, operation)
        if name == "done":
            self.assertEqual(found, ("done", None), operation)
            self.assertTrue(same_kinds(state_of(session), slow_change((table, wants), operation)), operation)
        else:
            self.assertEqual(found[0], name, operation)
            self.assertEqual(len(found[1]), len(arguments))
            for given, wanted in zip(found[1], arguments):
                self.assertIs(given, wanted)
            self.assertEqual(whole_but_log(session), before)
        self.assertEqual(session.log(), ((operation[0], name),))

    def test_one_argument(self):
        for name in ("remove_outlet", "remove_inlet", "add_inlet"):
            for value in GIVEN:
                self.check((name, value))

    def test_two_arguments(self):
        for name in ("set_want", "add_outlet"):
            for values in itertools.product(GIVEN, repeat=2):
                self.check((name, *values))

    def test_three_arguments(self):
        few = (0, 1, 2, 3, 5, TOP, TOP + 1, -1, True, False, None, "1", (1,), [1], {})
        for values in itertools.product(few, repeat=3):
            self.check(("set_width", *values))
        for value in ODD_VALUES:
            for at in range(3):
                values = [1, 1, 1]
                values[at] = value
                self.check(("set_width", *values))

    def test_names_of_the_arguments(self):
        session = Session(W, (3, 4))
        session.set_width(outlet=0, inlet=1, width=7)
        session.set_want(outlet=0, want=8)
        session.add_outlet(want=9, widths=(1, 2))
        session.add_inlet(widths=(1, 2, 3))
        session.remove_outlet(outlet=1)
        session.remove_inlet(inlet=0)
        self.assertEqual(state_of(session), (((7, 1), (2, 3)), (8, 9)))

    def test_last_ones(self):
        session = Session(((5,),), (5,))
        self.assertEqual(call(session, ("remove_outlet", 0)), ("LastOutlet", ()))
        self.assertEqual(call(session, ("remove_inlet", 0)), ("LastInlet", ()))
        for number in (1, -1, True, False, None, "0"):
            self.assertEqual(call(session, ("remove_outlet", number)), ("NoOutlet", (number,)))
            self.assertEqual(call(session, ("remove_inlet", number)), ("NoInlet", (number,)))

    def test_six_outlets_and_six_inlets(self):
        session = Session(filled(6, 6), (0,) * 6)
        before = whole_but_log(session)
        self.assertEqual(call(session, ("add_outlet", 1, (1,) * 6)), ("TooMany", (6,)))
        self.assertEqual(call(session, ("add_inlet", (1,) * 6)), ("TooMany", (6,)))
        for widths in ((1,) * 5, (1,) * 7, [1] * 6, None):
            self.assertEqual(call(session, ("add_outlet", 1, widths)), ("NoWidths", ()))
            self.assertEqual(call(session, ("add_outlet", -1, widths)), ("NoLevel", (-1,)))
            self.assertEqual(call(session, ("add_inlet", widths)), ("NoWidths", ()))
        self.assertEqual(whole_but_log(session), before)
        session.remove_outlet(5)
        session.add_outlet(1, (1,) * 6)
        session.remove_inlet(5)
        session.add_inlet((1,) * 6)
        self.assertEqual(len(session), 4)


class LimitTest(unittest.TestCase):
    """Points 4 and 52: TooMany(limit) before all other checks."""

    RIGHT = (("set_width", 0, 0, 1), ("set_want", 0, 1), ("add_outlet", 1, (1, 1)), ("remove_outlet", 0),
             ("add_inlet", (1, 1)), ("remove_inlet", 0))
    WRONG = (("set_width", None, None, None), ("set_want", 9, -1), ("add_outlet", -1, None), ("remove_outlet", 9),
             ("add_inlet", None), ("remove_inlet", True))

    def full_session(self, made, limit):
        session = made(((0, 0), (0, 0)), (0, 0), limit=limit)
        for number in range(limit):
            session.set_width(0, 0, number % 2)
        return session

    def test_limits(self):
        for made, limit in itertools.product((Session, GuardedSession), (0, 1, 2, MAX_OPERATIONS - 1, MAX_OPERATIONS)):
            for operation in (*self.RIGHT, *self.WRONG):
                session = self.full_session(made, limit)
                before = whole_but_log(session)
                self.assertEqual(call(session, operation), ("TooMany", (limit,)), operation)
                self.assertEqual(whole_but_log(session), before)
                self.assertEqual(session.log()[-1], (operation[0], "TooMany"))

    def test_limit_without_being_passed(self):
        session = Session(W, (3, 4))
        for _ in range(MAX_OPERATIONS):
            session.set_want(0, 3)
        with self.assertRaises(TooMany) as caught:
            session.set_want(0, 3)
        self.assertEqual(caught.exception.limit, 60)
        self.assertEqual(len(session), 60)

    def test_undo_makes_room(self):
        for limit in (1, 2, MAX_OPERATIONS):
            session = self.full_session(Session, limit)
            session.undo()
            self.assertEqual(call(session, ("set_want", 0, 5)), ("done", None))
            self.assertEqual(call(session, ("set_want", 0, 6)), ("TooMany", (limit,)))
            self.assertEqual(session.wants(), (5, 0))

    def test_undo_raises_no_too_many(self):
        session = self.full_session(Session, MAX_OPERATIONS)
        for left in reversed(range(MAX_OPERATIONS)):
            self.assertEqual(outcome_of(session.undo), ("done", None))
            self.assertEqual(len(session), left)

    def test_operations_that_fail_do_not_count(self):
        session = Session(W, (3, 4), limit=1)
        for operation in self.WRONG:
            self.assertNotEqual(call(session, operation)[0], "TooMany")
        self.assertEqual(call(session, ("set_want", 0, 5)), ("done", None))


if __name__ == "__main__":
    unittest.main()
