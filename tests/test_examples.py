"""The example sessions of the document, by the numbers of their points, with the answers that it shows."""

import unittest

SESSIONS = {
    6: """
>>> from widthmix.tables import is_table
>>> W = ((3, 5), (4, 2))
>>> is_table(W)
True
>>> is_table(((3, 5), (4,)))
False
""",
    7: """
>>> from widthmix.tables import levels_of
>>> W = ((3, 5), (4, 2))
>>> levels_of(W, (4, 1))
(3, 4)
>>> levels_of(W, (4,))
raises NoSetting
""",
    8: """
>>> from widthmix.tables import turned
>>> W = ((3, 5), (4, 2))
>>> turned(W)
((3, 4), (5, 2))
""",
    9: """
>>> from widthmix.tables import cut_at
>>> W = ((3, 5), (4, 2))
>>> cut_at(W, 4) == ((0, 10 ** 12), (10 ** 12, 0))
True
>>> cut_at(W, -1)
raises NoLevel(-1)
""",
    10: """
>>> from widthmix.tables import remove_outlet
>>> W = ((3, 5), (4, 2))
>>> remove_outlet(W, 0)
((4, 2),)
>>> remove_outlet(((1,),), 0)
raises LastOutlet
""",
    11: """
>>> from widthmix.tables import join_outlets
>>> W = ((3, 5), (4, 2))
>>> join_outlets(W, ((7, 0),))
((3, 5), (4, 2), (7, 0))
>>> join_outlets(W, ((7,),))
raises NoMatch
""",
    12: """
>>> from widthmix.tables import merged
>>> W = ((3, 5), (4, 2))
>>> merged(W, ((7, 0),), ((1, 1),))
((3, 5), (4, 2), (7, 0), (1, 1))
>>> merged(W, ((6,), (0,)), beside=True)
((3, 5, 6), (4, 2, 0))
>>> merged(W, ((7,),))
raises NoMatch
""",
    14: """
>>> from widthmix.solutions import upper_setting
>>> W = ((3, 5), (4, 2))
>>> upper_setting(W, (4, 1))
(1, 1)
>>> upper_setting(W, (4,))
raises NoWants
""",
    15: """
>>> from widthmix.solutions import is_solution
>>> W = ((3, 5), (4, 2))
>>> is_solution(W, (3, 4), (4, 2))
True
>>> is_solution(W, (3, 4), (4, 4))
False
""",
    16: """
>>> from widthmix.solutions import find_evidence
>>> W = ((3, 5), (4, 2))
>>> find_evidence(W, (3, 4))
None
>>> find_evidence(W, (4, 1))
(0, (None, 1))
""",
    17: """
>>> from widthmix.solutions import is_evidence
>>> W = ((3, 5), (4, 2))
>>> is_evidence(W, (4, 1), (0, (None, 1)))
True
>>> is_evidence(W, (4, 1), (0, (1, 1)))
False
""",
    18: """
>>> from widthmix.solutions import greatest_solution
>>> W = ((3, 5), (4, 2))
>>> greatest_solution(W, (3, 4)) == (10 ** 12, 3)
True
>>> greatest_solution(W, (4, 1))
raises NoSolution
""",
    19: """
>>> from widthmix.solutions import certificate
>>> W = ((3, 5), (4, 2))
>>> certificate(W, (4, 1))
('evidence', (0, (None, 1)))
""",
    20: """
>>> from widthmix.solutions import is_certificate
>>> W = ((3, 5), (4, 2))
>>> is_certificate(W, (3, 4), ('setting', (4, 0)))
True
>>> is_certificate(W, (3, 4), ('setting', (3, 0)))
False
""",
}


def steps_of(session):
    """Return pairs of a statement and the answer below it, which is None where there is none."""
    steps = []
    for line in session.strip().split("\n"):
        if line.startswith(">>> "):
            steps.append([line[4:], None])
        else:
            steps[-1][1] = line
    return steps


def answer_to(statement, names):
    """Return what the document would show: a value, or the exception with its arguments."""
    try:
        return repr(eval(statement, names)), None
    except ValueError as error:
        return None, error


class ExamplesTest(unittest.TestCase):
    """Points 6 to 20."""

    def test_sessions(self):
        self.assertEqual(list(SESSIONS), [6, 7, 8, 9, 10, 11, 12, 14, 15, 16, 17, 18, 19, 20])
        for point, session in SESSIONS.items():
            with self.subTest(point=point):
                self.run_session(session)

    def run_session(self, session):
        names = {}
        for statement, answer in steps_of(session):
            if answer is None:
                exec(statement, names)
                continue
            shown, error = answer_to(statement, names)
            if answer.startswith("raises "):
                self.check_error(answer[7:], error)
            else:
                self.assertEqual((shown, error), (answer, None), statement)

    def check_error(self, wanted, error):
        name, bracket, _ = wanted.partition("(")
        self.assertEqual(error.__class__.__name__, name)
        if bracket:
            arguments = ", ".join(repr(value) for value in vars(error).values())
            self.assertEqual(f"{name}({arguments})", wanted)


if __name__ == "__main__":
    unittest.main()
