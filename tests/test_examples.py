"""The example sessions of the document, by the numbers of their points, with the answers that it shows."""

import unittest

SESSIONS = {
    6: """
>>> from widthmix.tables import is_table
>>> W = ((3, 5), (4, 2))
>>> is_table(W)
True
>>> is_table(((3, 5), (4,)))
False
""",
    7: """
>>> from widthmix.tables import levels_of
>>> W = ((3, 5), (4, 2))
>>> levels_of(W, (4, 1))
(3, 4)
>>> levels_of(W, (4,))
raises NoSetting
""",
    8: """
>>> from widthmix.tables import turned
>>> W = ((3, 5), (4, 2))
>>> turned(W)
((3, 4), (5, 2))
""",
    9: """
>>> from widthmix.tables import cut_at
>>> W = ((3, 5), (4, 2))
>>> cut_at(W, 4) == ((0, 10 ** 12), (10 ** 12, 0))
True
>>> cut_at(W, -1)
raises NoLevel(-1)
""",
    10: """
>>> from widthmix.tables import remove_outlet
>>> W = ((3, 5), (4, 2))
>>> remove_outlet(W, 0)
((4, 2),)
>>> remove_outlet(((1,),), 0)
raises LastOutlet
""",
    11: """
>>> from widthmix.tables import join_outlets
>>> W = ((3, 5), (4, 2))
>>> join_outlets(W, ((7, 0),))
((3, 5), (4, 2), (7, 0))
>>> join_outlets(W, ((7,),))
raises NoMatch
""",
    12: """
>>> from widthmix.tables import merged
>>> W = ((3, 5), (4, 2))
>>> merged(W, ((7, 0),), ((1, 1),))
((3, 5), (4, 2), (7, 0), (1, 1))
>>> merged(W, ((6,), (0,)), beside=True)
((3, 5, 6), (4, 2, 0))
>>> merged(W, ((7,),))
raises NoMatch
""",
    14: """
>>> from widthmix.solutions import upper_setting
>>> W = ((3, 5), (4, 2))
>>> upper_setting(W, (4, 1))
(1, 1)
>>> upper_setting(W, (4,))
raises NoWants
""",
    15: """
>>> from widthmix.solutions import is_solution
>>> W = ((3, 5), (4, 2))
>>> is_solution(W, (3, 4), (4, 2))
True
>>> is_solution(W, (3, 4), (4, 4))
False
""",
    16: """
>>> from widthmix.solutions import find_evidence
>>> W = ((3, 5), (4, 2))
>>> find_evidence(W, (3, 4))
None
>>> find_evidence(W, (4, 1))
(0, (None, 1))
""",
    17: """
>>> from widthmix.solutions import is_evidence
>>> W = ((3, 5), (4, 2))
>>> is_evidence(W, (4, 1), (0, (None, 1)))
True
>>> is_evidence(W, (4, 1), (0, (1, 1)))
False
""",
    18: """
>>> from widthmix.solutions import greatest_solution
>>> W = ((3, 5), (4, 2))
>>> greatest_solution(W, (3, 4)) == (10 ** 12, 3)
True
>>> greatest_solution(W, (4, 1))
raises NoSolution
""",
    19: """
>>> from widthmix.solutions import certificate
>>> W = ((3, 5), (4, 2))
>>> certificate(W, (4, 1))
('evidence', (0, (None, 1)))
""",
    20: """
>>> from widthmix.solutions import is_certificate
>>> W = ((3, 5), (4, 2))
>>> is_certificate(W, (3, 4), ('setting', (4, 0)))
True
>>> is_certificate(W, (3, 4), ('setting', (3, 0)))
False
""",
    22: """
>>> from widthmix.minimal import minimal_solutions
>>> W = ((3, 5), (4, 2))
>>> minimal_solutions(W, (3, 4))
((4, 0),)
>>> minimal_solutions(((3, 5),), (3,))
((0, 3), (3, 0))
""",
    23: """
>>> from widthmix.minimal import is_minimal
>>> W = ((3, 5), (4, 2))
>>> is_minimal(W, (3, 4), (4, 0))
True
>>> is_minimal(W, (3, 4), (4, 1))
False
""",
    24: """
>>> from widthmix.minimal import inlet_range
>>> W = ((3, 5), (4, 2))
>>> inlet_range(W, (3, 4), 1)
(0, 3)
>>> inlet_range(W, (3, 4), 2)
raises NoInlet(2)
""",
    25: """
>>> from widthmix.minimal import count_solutions
>>> W = ((3, 5), (4, 2))
>>> count_solutions(W, (3, 4))
3999999999988
>>> count_solutions(W, (4, 1))
0
""",
    26: """
>>> from widthmix.minimal import solution_at
>>> W = ((3, 5), (4, 2))
>>> solution_at(W, (3, 4), 5)
(5, 1)
>>> solution_at(W, (3, 4), -1)
raises NoIndex(-1)
""",
    27: """
>>> from widthmix.minimal import solution_index
>>> W = ((3, 5), (4, 2))
>>> solution_index(W, (3, 4), (5, 1))
5
>>> solution_index(W, (3, 4), (3, 0))
raises NoSetting
""",
    28: """
>>> from widthmix.minimal import walk_solutions
>>> W = ((3, 5), (4, 2))
>>> list(walk_solutions(W, (3, 4), first=3, most=3))
[(4, 3), (5, 0), (5, 1)]
>>> list(walk_solutions(W, (4, 1)))
[]
""",
    30: """
>>> from widthmix.costs import cost_of
>>> W = ((3, 5), (4, 2))
>>> cost_of(W, (4, 3), (1, -1))
1
>>> cost_of(W, (4, 3), (1,))
raises NoPrices
""",
    31: """
>>> from widthmix.costs import cheapest_solution
>>> W = ((3, 5), (4, 2))
>>> cheapest_solution(W, (3, 4), (1, -1))
(1, (4, 3))
>>> cheapest_solution(W, (4, 1), (1, 1))
raises NoSolution
""",
    33: """
>>> from widthmix.tolerances import setting_within
>>> W = ((3, 5), (4, 2))
>>> setting_within(W, (4, 1), 1) == (2, 10 ** 12)
True
>>> setting_within(W, (4, 1), 0)
None
""",
    34: """
>>> from widthmix.tolerances import is_evidence_against
>>> W = ((3, 5), (4, 2))
>>> is_evidence_against(W, (4, 1), 0, (0, (None, 1)))
True
>>> is_evidence_against(W, (4, 1), 1, (0, (None, 1)))
False
""",
    35: """
>>> from widthmix.tolerances import least_tolerance
>>> W = ((3, 5), (4, 2))
>>> least_tolerance(W, (4, 1))
1
""",
    36: """
>>> from widthmix.tolerances import tolerance_certificate
>>> W = ((3, 5), (4, 2))
>>> tolerance_certificate(W, (4, 1)) == (1, (2, 10 ** 12), (0, (None, 1)))
True
""",
    37: """
>>> from widthmix.tolerances import is_tolerance_certificate
>>> W = ((3, 5), (4, 2))
>>> is_tolerance_certificate(W, (4, 1), (1, (2, 7), (0, (None, 1))))
True
>>> is_tolerance_certificate(W, (3, 4), (0, (4, 0), None))
True
""",
    39: """
>>> from widthmix.products import product
>>> W = ((3, 5), (4, 2))
>>> product(W, W)
((4, 3), (3, 4))
>>> product(W, ((1, 2),))
raises NoMatch
""",
    40: """
>>> from widthmix.products import power
>>> W = ((3, 5), (4, 2))
>>> power(W, 3)
((3, 4), (4, 3))
>>> power(W, 10 ** 18)
((4, 3), (3, 4))
>>> power(((1, 2),), 2)
raises NotSquare
""",
    41: """
>>> from widthmix.products import index_and_period
>>> W = ((3, 5), (4, 2))
>>> index_and_period(W)
(2, 2)
""",
    42: """
>>> from widthmix.products import closure
>>> W = ((3, 5), (4, 2))
>>> closure(W)
((4, 5), (4, 4))
""",
    43: """
>>> from widthmix.products import groups_at
>>> W = ((3, 5), (4, 2))
>>> groups_at(W, 4)
((0, 1),)
>>> groups_at(W, 5)
((0,), (1,))
""",
    44: """
>>> from widthmix.products import residual
>>> W = ((3, 5), (4, 2))
>>> residual(W, ((4,), (2,)))
((2,), (4,))
""",
    45: """
>>> from widthmix.products import solve_product
>>> W = ((3, 5), (4, 2))
>>> solve_product(W, ((4,), (2,)))
((2,), (4,))
>>> solve_product(W, ((4,), (1,)))
None
""",
    47: """
>>> from widthmix.agreement import agree_at
>>> agree_at(((3, 5),), ((4, 2),), (9, 4))
True
>>> W = ((3, 5), (4, 2))
>>> agree_at(((3, 5),), W, (9, 4))
raises NoMatch
""",
    48: """
>>> from widthmix.agreement import common_setting
>>> common_setting(((3, 5),), ((4, 2),), (9, 9))
(9, 4)
""",
    49: """
>>> from widthmix.agreement import find_lowerings
>>> find_lowerings(((3, 5),), ((4, 2),), (9, 9))
((0, 0, 1, 4),)
""",
    50: """
>>> from widthmix.agreement import lowerings_hold
>>> lowerings_hold(((3, 5),), ((4, 2),), (9, 9), ((0, 0, 1, 4),))
True
>>> lowerings_hold(((3, 5),), ((4, 2),), (9, 9), ())
False
""",
    51: """
>>> from widthmix.agreement import fixed_setting
>>> W = ((3, 5), (4, 2))
>>> fixed_setting(W, (9, 9))
(4, 4)
""",
    53: """
>>> from widthmix.sessions import Session
>>> W = ((3, 5), (4, 2))
>>> s = Session(W, (4, 1))
>>> str(s)
'2 outlets, 2 inlets, tolerance 1'
>>> Session(W, (4,))
raises NoWants
""",
    54: """
>>> from widthmix.sessions import GuardedSession
>>> W = ((3, 5), (4, 2))
>>> s = GuardedSession(W, (3, 4))
>>> s.set_want(1, 5)
raises Blocked
>>> s = GuardedSession(W, (3, 4))
>>> s.apply_all([('set_want', 1, 5), ('set_want', 1, 4)])
raises Failed(0)
""",
    55: """
>>> from widthmix.sessions import Session
>>> W = ((3, 5), (4, 2))
>>> s = Session(W, (3, 4))
>>> s.set_width(0, 1, 0)
>>> s.table()
((3, 0), (4, 2))
""",
    56: """
>>> from widthmix.sessions import Session
>>> W = ((3, 5), (4, 2))
>>> s = Session(W, (3, 4))
>>> s.set_want(2, 5)
raises NoOutlet(2)
""",
    57: """
>>> from widthmix.sessions import Session
>>> W = ((3, 5), (4, 2))
>>> s = Session(W, (3, 4))
>>> s.add_outlet(6, (7, 0))
>>> (s.table(), s.wants())
(((3, 5), (4, 2), (7, 0)), (3, 4, 6))
""",
    58: """
>>> from widthmix.sessions import Session
>>> W = ((3, 5), (4, 2))
>>> s = Session(W, (3, 4))
>>> s.remove_outlet(0)
>>> (s.table(), s.wants())
(((4, 2),), (4,))
""",
    59: """
>>> from widthmix.sessions import Session
>>> W = ((3, 5), (4, 2))
>>> s = Session(W, (3, 4))
>>> s.add_inlet((6, 0))
>>> s.table()
((3, 5, 6), (4, 2, 0))
""",
    60: """
>>> from widthmix.sessions import Session
>>> W = ((3, 5), (4, 2))
>>> s = Session(W, (3, 4))
>>> s.remove_inlet(0)
>>> s.table()
((5,), (2,))
""",
    61: """
>>> from widthmix.sessions import Session
>>> W = ((3, 5), (4, 2))
>>> s = Session(W, (3, 4))
>>> s.undo()
raises NothingToUndo
""",
    62: """
>>> from widthmix.sessions import Session
>>> W = ((3, 5), (4, 2))
>>> s = Session(W, (3, 4))
>>> s.apply_all([('set_want', 0, 9), ('remove_inlet', 2)])
raises Failed(1)
>>> s = Session(W, (3, 4))
>>> s.apply_all([('set_want', 0, 9), ('remove_inlet', 1)])
>>> (len(s), s.wants(), s.table())
(2, (9, 4), ((3,), (4,)))
""",
    63: """
>>> from widthmix.sessions import Session
>>> W = ((3, 5), (4, 2))
>>> s = Session(W, (3, 4))
>>> s.set_want(0, 9)
>>> s.undo()
>>> s.log()
(('set_want', 'done'), ('undo', 'done'))
""",
    64: """
>>> from widthmix.sessions import Session
>>> W = ((3, 5), (4, 2))
>>> s = Session(W, (3, 4))
>>> s.set_want(0, 9)
>>> (s.wants(), s.wants(at=0), s.table())
((9, 4), (3, 4), ((3, 5), (4, 2)))
""",
    65: """
>>> from widthmix.sessions import Session
>>> W = ((3, 5), (4, 2))
>>> Session(W, (4, 1)).certificate()
('evidence', (0, (None, 1)))
""",
    66: """
>>> from widthmix.sessions import Session
>>> W = ((3, 5), (4, 2))
>>> s = Session(W, (3, 4))
>>> s.minimal()
((4, 0),)
""",
    67: """
>>> from widthmix.sessions import Session
>>> W = ((3, 5), (4, 2))
>>> s = Session(W, (3, 4))
>>> s.clone() == s
True
""",
    68: """
>>> from widthmix.sessions import Session
>>> W = ((3, 5), (4, 2))
>>> s = Session(W, (3, 4))
>>> (s.preview([('set_want', 0, 4), ('set_want', 1, 1)]), s.wants(), s.log())
(('evidence', (0, (None, 1))), (3, 4), ())
""",
    69: """
>>> from widthmix.sessions import GuardedSession
>>> s = GuardedSession.from_text('3: 3 5\\n4: 4 2\\n')
>>> str(s)
'guarded, 2 outlets, 2 inlets, tolerance 0'
""",
    70: """
>>> from widthmix.sessions import Session
>>> Session.operation_names()
('add_inlet', 'add_outlet', 'remove_inlet', 'remove_outlet', 'set_want', 'set_width')
""",
    71: """
>>> from widthmix.sessions import Session
>>> W = ((3, 5), (4, 2))
>>> s = Session(W, (4, 1))
>>> s.note = 'first'
>>> (Session.LIMIT, s.gap, s.note)
(60, 1, 'first')
>>> s = Session(W, (4, 1))
>>> s.annotate(7)
raises NoNote(7)
""",
    74: """
>>> from widthmix.texts import format_data
>>> W = ((3, 5), (4, 2))
>>> format_data(W, (3, 4))
'3: 3 5\\n4: 4 2\\n'
""",
    75: """
>>> from widthmix.texts import parse_data
>>> parse_data('3: 3 5\\n4: 4 2\\n')
(((3, 5), (4, 2)), (3, 4))
>>> parse_data('3: 3 5\\n4: 4\\n')
raises BadText(1)
>>> parse_data('')
raises BadText(0)
""",
    76: """
>>> from widthmix.texts import format_setting
>>> format_setting((4, 0))
'4 0'
""",
    77: """
>>> from widthmix.texts import parse_setting
>>> parse_setting('4 0')
(4, 0)
>>> parse_setting('4  0')
raises BadText(0)
""",
    78: """
>>> from widthmix.consoles import Console
>>> from widthmix.sessions import Session
>>> W = ((3, 5), (4, 2))
>>> s = Session(W, (3, 4))
>>> c = Console(s)
>>> answer = c.execute('want 0 5')
>>> (answer, s.wants())
('done', (5, 4))
""",
    79: """
>>> from widthmix.consoles import Console
>>> from widthmix.sessions import Session
>>> W = ((3, 5), (4, 2))
>>> c = Console(Session(W, (4, 1)))
>>> (c.execute('evidence'), c.execute('minimal'), c.execute('levels 4 1'), c.execute('count 1'))
('0 - 1', 'error NoSolution', '3 4', 'syntax error')
""",
    80: """
>>> from widthmix.consoles import Console
>>> from widthmix.sessions import Session
>>> W = ((3, 5), (4, 2))
>>> c = Console(Session(W, (3, 4)))
>>> one = c.execute('undo')
>>> other = c.execute(None)
>>> c.history()
(('undo', 'error NothingToUndo'), (None, 'syntax error'))
""",
}


def steps_of(session):
    """Return pairs of a statement and the answer below it, which is None where there is none."""
    steps = []
    for line in session.strip().split("\n"):
        if line.startswith(">>> "):
            steps.append([line[4:], None])
        else:
            steps[-1][1] = line
    return steps


def answer_to(statement, names):
    """Return what the document would show: a value, or the exception with its arguments."""
    try:
        return repr(eval(statement, names)), None
    except ValueError as error:
        return None, error


class ExamplesTest(unittest.TestCase):
    """Points 6 to 80."""

    def test_sessions(self):
        points = [*range(6, 13), *range(14, 21), *range(22, 29), 30, 31, *range(33, 38), *range(39, 46),
                  *range(47, 52), *range(53, 72), *range(74, 81)]
        self.assertEqual(list(SESSIONS), points)
        for point, session in SESSIONS.items():
            with self.subTest(point=point):
                self.run_session(session)

    def run_session(self, session):
        names = {}
        for statement, answer in steps_of(session):
            if answer is None:
                exec(statement, names)
                continue
            shown, error = answer_to(statement, names)
            if answer.startswith("raises "):
                self.check_error(answer[7:], error)
            else:
                self.assertEqual((shown, error), (answer, None), statement)

    def check_error(self, wanted, error):
        name, bracket, _ = wanted.partition("(")
        self.assertEqual(error.__class__.__name__, name)
        if bracket:
            arguments = ", ".join(repr(value) for value in vars(error).values())
            self.assertEqual(f"{name}({arguments})", wanted)


if __name__ == "__main__":
    unittest.main()
