import random
import re
import unittest

from tests.helper import ODD_VALUES, Unchanged, W, slow_levels
from tests.model import drawn_operation, drawn_state, is_slow_evidence, outcome_of, whole
from widthmix.consoles import Console
from widthmix.limits import TOP
from widthmix.minimal import count_solutions
from widthmix.sessions import GuardedSession, Session

NUMBER = "(?:0|[1-9][0-9]{0,12})"
# Every kind of line, with the least number of words after the first one, and whether more may follow.
KINDS = {
    "width": (3, False), "want": (2, False), "add_outlet": (1, True), "remove_outlet": (1, False),
    "add_inlet": (0, True), "remove_inlet": (1, False), "undo": (0, False), "greatest": (0, False),
    "minimal": (0, False), "evidence": (0, False), "tolerance": (0, False), "levels": (0, True), "count": (0, False),
}
LINE = re.compile("|".join(f"{word}(?: {NUMBER}){{{many},{'' if more else many}}}" for word, (many, more) in KINDS.items()))
WRONG_WORDS = ("", "00", "01", "+1", "-1", "-0", "1.0", "1e3", "0x1", "1_0", "one", "None", "-", ":", "1:", "1,", "1\n", "\n",
               "1" * 14, "0" * 14, "9" * 100, "1\t", "width", "\u0663", "\u00b2")


def slow_words(setting):
    return " ".join(str(level) for level in setting)


def slow_perform(session, word, numbers):
    """Perform a change by the session's own method."""
    if word == "width":
        session.set_width(*numbers)
    elif word == "want":
        session.set_want(*numbers)
    elif word == "add_outlet":
        session.add_outlet(numbers[0], tuple(numbers[1:]))
    elif word == "add_inlet":
        session.add_inlet(tuple(numbers))
    else:
        getattr(session, word)(*numbers)
    return "done"


def slow_query(session, word, numbers):
    """Answer a query by the session's own methods, without the exceptions."""
    if word == "greatest":
        return slow_words(session.greatest())
    if word == "minimal":
        return "; ".join(slow_words(setting) for setting in session.minimal())
    if word == "evidence":
        name, proof = session.certificate()
        return "none" if name == "setting" else slow_words((proof[0], *["-" if k is None else k for k in proof[1]]))
    if word == "tolerance":
        return str(session.tolerance()[0])
    if word == "count":
        return str(count_solutions(session.table(), session.wants()))
    if len(numbers) != len(session.table()[0]) or max(numbers) > TOP:
        return "error NoSetting"
    return slow_words(slow_levels(session.table(), tuple(numbers)))


def slow_answer(session, line):
    """What a console must answer; the session is changed as it must be."""
    if not isinstance(line, str) or not LINE.fullmatch(line):
        return "syntax error"
    word, *rest = line.split(" ")
    answer = slow_perform if word in list(KINDS)[:7] else slow_query
    name, result = outcome_of(answer, session, word, [int(part) for part in rest])
    return result if name == "done" else f"error {name}"


def begun():
    session = Session(((3, 5, 1), (4, 2, 0)), (3, 4))
    session.set_want(1, 2)
    session.note = "begun"
    return session


class LinesTest(unittest.TestCase):
    """Points 78 and 79: every line beside the session's own methods."""

    def check(self, session, line):
        twin = session.clone()
        before = whole(session)
        console = Console(session)
        answer = console.execute(line)
        self.assertIs(type(answer), str)
        self.assertEqual(answer, slow_answer(twin, line), line)
        self.assertEqual(whole(session), whole(twin), line)
        if answer == "syntax error":
            self.assertEqual(whole(session), before, line)
        self.assertEqual(console.history(), ((line if isinstance(line, str) else None, answer),))

    def test_numbers_of_words(self):
        for word in KINDS:
            for many in range(9):
                for number in ("0", "1", "2", "7", str(TOP), str(TOP + 1), "9" * 13):
                    self.check(begun(), " ".join([word] + [number] * many))

    def test_valid_lines(self):
        lines = ("width 0 1 0", "width 1 2 7", "want 0 9", "want 1 0", "add_outlet 6 7 0 1", "remove_outlet 0",
                 "add_inlet 6 0", "remove_inlet 2", "undo", "greatest", "minimal", "evidence", "tolerance", "levels 4 1 0",
                 "levels 0 0 0", "count", f"want 0 {TOP}", f"levels {TOP} {TOP} {TOP}")
        for line in lines:
            twin = begun()
            self.assertNotIn("error", slow_answer(twin, line), line)
            self.check(begun(), line)

    def test_words_of_a_wrong_form(self):
        for word, (many, more) in KINDS.items():
            for given in range(many, many + 3 if more else many + 1):
                for at in range(given):
                    for wrong in WRONG_WORDS:
                        parts = ["1"] * given
                        parts[at] = wrong
                        line = " ".join([word] + parts)
                        self.check(begun(), line)
                        self.assertEqual(Console(begun()).execute(line), "syntax error", line)

    def test_spaces_and_line_ends(self):
        for word, (many, _) in KINDS.items():
            line = " ".join([word] + ["1"] * many)
            for changed in (" " + line, line + " ", line + "\n", "\n" + line, line + "\r", line.replace(" ", "  "), line + "  ",
                            line.replace(" ", "\t"), line + "\n" + line, line.upper(), line.title(), line + ";", line + " #"):
                self.check(begun(), changed)
                if changed != line:
                    self.assertEqual(Console(begun()).execute(changed), "syntax error", changed)

    def test_first_words(self):
        for word in ("", " ", "set_width", "set_want", "widths", "wid", "table", "wants", "log", "clone", "annotate",
                     "apply_all", "preview", "from_text", "operation_names", "help", "Undo", "certificate", "gap",
                     "perform", "session", "0", "-", "level", "undo undo", "redo", "__init__"):
            for rest in ("", " 0", " 0 0", " 0 0 0"):
                self.assertEqual(Console(begun()).execute(word + rest), "syntax error", word)
                self.check(begun(), word + rest)

    def test_no_strings(self):
        for line in (*ODD_VALUES, ("undo",), ["undo"], {"undo": 1}, b"undo"):
            with Unchanged(self, line):
                self.check(begun(), line)
            # This string stands among the odd values, too.
            self.assertEqual(Console(begun()).execute(line), "none" if line == "evidence" else "syntax error")

    def test_errors_of_every_class(self):
        cases = {
            "width 2 0 1": "NoOutlet", "width 0 3 1": "NoInlet", f"width 0 0 {TOP + 1}": "NoLevel",
            "want 2 1": "NoOutlet", f"want 0 {TOP + 1}": "NoLevel", "want 9999999999999 1": "NoOutlet",
            f"add_outlet {TOP + 1} 1": "NoLevel", "add_outlet 1": "NoWidths", "add_outlet 1 1 1": "NoWidths",
            "add_outlet 1 1 1 1 1": "NoWidths", f"add_outlet 1 1 1 {TOP + 1}": "NoWidths", "remove_outlet 2": "NoOutlet",
            "add_inlet": "NoWidths", "add_inlet 1": "NoWidths", "add_inlet 1 1 1": "NoWidths",
            "remove_inlet 3": "NoInlet", "levels": "NoSetting", "levels 1 1": "NoSetting", "levels 1 1 1 1": "NoSetting",
            f"levels 1 1 {TOP + 1}": "NoSetting",
        }
        for line, name in cases.items():
            self.assertEqual(Console(begun()).execute(line), f"error {name}", line)
            self.check(begun(), line)

    def test_errors_of_other_sessions(self):
        self.assertEqual(Console(Session(W, (3, 4))).execute("undo"), "error NothingToUndo")
        self.assertEqual(Console(Session(W, (3, 4), limit=0)).execute("want 9 9"), "error TooMany")
        self.assertEqual(Console(Session(((5,),) * 6, (5,) * 6)).execute("add_outlet 1 1"), "error TooMany")
        self.assertEqual(Console(Session(((5,) * 6,), (5,))).execute("add_inlet 1"), "error TooMany")
        self.assertEqual(Console(Session(((5,),), (5,))).execute("remove_outlet 0"), "error LastOutlet")
        self.assertEqual(Console(Session(((5,),), (5,))).execute("remove_inlet 0"), "error LastInlet")
        self.assertEqual(Console(GuardedSession(W, (3, 4))).execute("want 1 5"), "error Blocked")
        for line in ("greatest", "minimal"):
            self.assertEqual(Console(Session(W, (4, 1))).execute(line), "error NoSolution")
        self.assertEqual(Console(Session(W, (4, 1))).execute("count"), "0")

    def test_answers(self):
        console = Console(Session(((3, 5),), (3,)))
        self.assertEqual(console.execute("minimal"), "0 3; 3 0")
        self.assertEqual(console.execute("greatest"), f"{TOP} 3")
        self.assertEqual(console.execute("evidence"), "none")
        self.assertEqual(console.execute("tolerance"), "0")
        self.assertEqual(console.execute("levels 9 4"), "4")
        self.assertEqual(console.execute("count"), str(TOP + 1 + 3 * (TOP - 2)))
        self.assertEqual(console.execute("add_outlet 9 1 2"), "done")
        self.assertEqual(console.execute("evidence"), "1 - -")
        self.assertEqual(console.execute("tolerance"), "7")

    def test_drawn_sessions(self):
        source = random.Random(171)
        for number in range(150):
            guarded = number % 2 == 1
            session = (GuardedSession if guarded else Session)(*drawn_state(source, solvable=guarded))
            for _ in range(15):
                self.check(session, self.drawn_line(source, session))
            self.check_evidence(session)

    def drawn_line(self, source, session):
        if source.randrange(2):
            inlets = len(session.table()[0])
            return source.choice(("undo", "greatest", "minimal", "evidence", "tolerance", "count",
                                  slow_words(("levels", *[source.randint(0, 12) for _ in range(inlets)]))))
        name, *arguments = drawn_operation(source, (session.table(), session.wants()))
        words = [str(part) for given in arguments for part in (given if isinstance(given, tuple) else (given,))]
        return " ".join([name.removeprefix("set_"), *words])

    def check_evidence(self, session):
        answer = Console(session).execute("evidence")
        if session.certificate()[0] == "setting":
            self.assertEqual(answer, "none")
        else:
            outlet, *reasons = [None if word == "-" else int(word) for word in answer.split(" ")]
            self.assertTrue(is_slow_evidence(session.table(), session.wants(), (outlet, tuple(reasons))))


class SessionTest(unittest.TestCase):
    """Points 63, 78 and 79: the console uses the session itself."""

    def test_operations_are_recorded_and_can_be_undone(self):
        session = Session(W, (3, 4))
        console = Console(session)
        for line in ("width 0 1 0", "want 9 9", "minimal", "nonsense", "undo", "undo", "levels 1 1"):
            console.execute(line)
        self.assertEqual(session.log(), (("set_width", "done"), ("set_want", "NoOutlet"), ("undo", "done"),
                                         ("undo", "NothingToUndo")))
        self.assertEqual((session.table(), session.wants(), len(session)), (W, (3, 4), 0))

    def test_two_consoles_on_one_session(self):
        session = Session(W, (3, 4))
        one, other = Console(session), Console(session)
        self.assertEqual(one.execute("want 0 5"), "done")
        self.assertEqual(other.execute("width 0 0 9"), "done")
        self.assertEqual((session.table(), session.wants()), (((9, 5), (4, 2)), (5, 4)))
        self.assertEqual(one.execute("undo"), "done")
        self.assertEqual((session.table(), session.wants()), (W, (5, 4)))
        self.assertEqual(other.execute("undo"), "done")
        self.assertEqual(one.execute("undo"), "error NothingToUndo")
        self.assertEqual(one.history(), (("want 0 5", "done"), ("undo", "done"), ("undo", "error NothingToUndo")))
        self.assertEqual(other.history(), (("width 0 0 9", "done"), ("undo", "done")))

    def test_changes_by_the_session_are_seen(self):
        session = Session(W, (3, 4))
        console = Console(session)
        session.set_want(0, 9)
        self.assertEqual(console.execute("tolerance"), "4")
        session.undo()
        self.assertEqual(console.execute("tolerance"), "0")

    def test_a_session_without_operations(self):
        # Such a session has the length 0, so it is false in Python.
        session = Session(W, (3, 4))
        self.assertFalse(session)
        self.assertEqual(Console(session).execute("want 0 5"), "done")
        self.assertEqual(session.wants(), (5, 4))


class HistoryTest(unittest.TestCase):
    """Point 80."""

    def test_empty(self):
        self.assertEqual(Console(Session(W, (3, 4))).history(), ())

    def test_more_than_twenty_lines(self):
        console = Console(Session(W, (3, 4)))
        expected = []
        lines = ["undo", "tolerance", "count 1", "", None, 7, "want 0 3", ["undo"], "levels 4 1", True]
        for number in range(57):
            line = lines[number % 10]
            answer = console.execute(line)
            expected.append((line if isinstance(line, str) else None, answer))
            self.assertEqual(console.history(), tuple(expected[-20:]))
            self.assertEqual(console.history(), console.history())
        self.assertEqual(len(console.history()), 20)

    def test_no_strings(self):
        for line in ODD_VALUES:
            console = Console(Session(W, (3, 4)))
            answer = console.execute(line)
            self.assertEqual(console.history(), ((line if isinstance(line, str) else None, answer),))

    def test_a_history_that_was_returned_stays_as_it_is(self):
        console = Console(Session(W, (3, 4)))
        console.execute("undo")
        before = console.history()
        console.execute("undo")
        self.assertEqual(before, (("undo", "error NothingToUndo"),))


if __name__ == "__main__":
    unittest.main()
