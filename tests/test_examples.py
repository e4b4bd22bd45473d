"""The examples of the document, as they stand there."""

import unittest

from tests.sessions import check_session


class RuleExamples(unittest.TestCase):
    def test_e01(self):
        check_session(self, """
            >>> from retryslots.rules import Rule
            >>> r = Rule([1, 2], ('times', 2))
            >>> [r.gap(1), r.gap(3), r.offset(4), r.attempts(), r.least_gap()]
            [2, 8, 15, None, 1]
        """)

    def test_e02(self):
        check_session(self, """
            >>> from retryslots.rules import Rule
            >>> c = Rule([4, 1, 2], ('repeat', 2))
            >>> [c.offset(3), c.offset(6), c.period()]
            [7, 11, 3]
        """)

    def test_e04(self):
        check_session(self, """
            >>> from retryslots.rules import Rule
            >>> e = Rule([5, 3], ('end',))
            >>> [e.attempts(), e.first_from(9), e.first_from(6), e.attempt_at(5), e.attempt_at(6)]
            [3, None, 2, 1, None]
        """)

    def test_e05(self):
        check_session(self, """
            >>> from retryslots.rules import Rule
            >>> e = Rule([5, 3], ('end',))
            >>> e.gap(2)
            raises InvalidAttempt(attempt=2)
        """)

    def test_e06(self):
        check_session(self, """
            >>> from retryslots.rules import Rule
            >>> r = Rule([1, 2], ('times', 2))
            >>> [r.first_from(8), r.first_from(-5), r.attempt_at(7), r.attempt_at(8)]
            [4, 0, 3, None]
        """)

    def test_e07(self):
        check_session(self, """
            >>> from retryslots.rules import Rule
            >>> Rule([0], ('end',))
            raises InvalidRule(part='gaps')
        """)

    def test_e09(self):
        check_session(self, """
            >>> from retryslots.rules import Rule
            >>> Rule([1], ('times', 2)).offset(1001)
            raises LimitExceeded(limit=1000)
        """)


class DifferenceExamples(unittest.TestCase):
    def test_e201(self):
        check_session(self, """
            >>> from retryslots.rules import Rule
            >>> from retryslots.differences import is_spread
            >>> r = Rule([1, 2], ('times', 2))
            >>> is_spread(r)
            True
        """)

    def test_e204(self):
        check_session(self, """
            >>> from retryslots.rules import Rule
            >>> from retryslots.differences import first_repetition
            >>> q = Rule([1, 1], ('times', 2))
            >>> first_repetition(q)
            ((0, 1), (1, 2))
        """)

    def test_e207(self):
        check_session(self, """
            >>> from retryslots.rules import Rule
            >>> from retryslots.differences import is_repetition
            >>> q = Rule([1, 1], ('times', 2))
            >>> is_repetition(q, ((2, 3), (0, 2)))
            True
        """)

    def test_e209(self):
        check_session(self, """
            >>> from retryslots.rules import Rule
            >>> from retryslots.differences import shared_attempts
            >>> r = Rule([1, 2], ('times', 2))
            >>> shared_attempts(r, 6)
            ([(3, 1)], [])
        """)

    def test_e213(self):
        check_session(self, """
            >>> from retryslots.rules import Rule
            >>> from retryslots.differences import most_shared
            >>> q = Rule([1, 1], ('times', 2))
            >>> most_shared(q)
            (2, 1)
        """)

    def test_e216(self):
        check_session(self, """
            >>> from retryslots.rules import Rule
            >>> from retryslots.differences import next_distance
            >>> r = Rule([1, 2], ('times', 2))
            >>> next_distance(r, 5)
            (6, (3, 1))
        """)

    def test_e219(self):
        check_session(self, """
            >>> from retryslots.rules import Rule
            >>> from retryslots.differences import count_distances
            >>> r = Rule([1, 2], ('times', 2))
            >>> count_distances(r, 10)
            7
        """)


class SceneExamples(unittest.TestCase):
    def test_e302(self):
        check_session(self, """
            >>> from retryslots.rules import Rule
            >>> from retryslots.scenes import Scene
            >>> scene = Scene(Rule([5, 3], ('end',)), [0, -5], outages=[(-10, 0)], length=3)
            >>> [scene.slot_of(1, 2), scene.attempt_in(0, 5), scene.outage_at(-1)]
            [3, 1, 0]
        """)


class RunExamples(unittest.TestCase):
    def test_e303(self):
        check_session(self, """
            >>> from retryslots.rules import Rule
            >>> from retryslots.scenes import Scene
            >>> from retryslots.runs import Run
            >>> scene = Scene(Rule([5, 3], ('end',)), [0, -5], outages=[(-10, 0)], length=3)
            >>> Run(scene).outcomes()
            [('served', 2, 8), ('served', 2, 3)]
        """)

    def test_e304(self):
        check_session(self, """
            >>> from retryslots.rules import Rule
            >>> from retryslots.scenes import Scene
            >>> from retryslots.runs import Run
            >>> scene = Scene(Rule([5, 3], ('end',)), [0, -5], outages=[(-10, 0)], length=3)
            >>> Run(scene).order()
            [(3, 1), (8, 0)]
        """)

    def test_e305(self):
        check_session(self, """
            >>> from retryslots.rules import Rule
            >>> from retryslots.scenes import Scene
            >>> from retryslots.runs import Run
            >>> scene = Scene(Rule([5, 3], ('end',)), [0, -5], outages=[(-10, 0)], length=3)
            >>> run = Run(scene)
            >>> [run.active(-1), run.active(4), run.attempting(0), run.active(9)]
            [[1], [0], [0, 1], []]
        """)

    def test_e306(self):
        check_session(self, """
            >>> from retryslots.rules import Rule
            >>> from retryslots.scenes import Scene
            >>> from retryslots.runs import Run
            >>> scene = Scene(Rule([5, 3], ('end',)), [0, -5], outages=[(-10, 0)], length=3)
            >>> run = Run(scene)
            >>> [run.event(0), run.event(5), run.event(4), run.event(3), run.event(-5), run.event(1)]
            [('met', [0, 1]), ('busy', 1, [0]), ('busy', 1, []), ('served', 1), ('outage', 0, [1]), ('idle',)]
        """)
