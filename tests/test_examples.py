"""The examples of the document, as they stand there."""

import unittest

from tests.sessions import check_session


class RuleExamples(unittest.TestCase):
    def test_e01(self):
        check_session(self, """
            >>> from retryslots.rules import Rule
            >>> r = Rule([1, 2], ('times', 2))
            >>> [r.gap(1), r.gap(3), r.offset(4), r.attempts(), r.least_gap()]
            [2, 8, 15, None, 1]
        """)

    def test_e02(self):
        check_session(self, """
            >>> from retryslots.rules import Rule
            >>> c = Rule([4, 1, 2], ('repeat', 2))
            >>> [c.offset(3), c.offset(6), c.period()]
            [7, 11, 3]
        """)

    def test_e04(self):
        check_session(self, """
            >>> from retryslots.rules import Rule
            >>> e = Rule([5, 3], ('end',))
            >>> [e.attempts(), e.first_from(9), e.first_from(6), e.attempt_at(5), e.attempt_at(6)]
            [3, None, 2, 1, None]
        """)

    def test_e05(self):
        check_session(self, """
            >>> from retryslots.rules import Rule
            >>> e = Rule([5, 3], ('end',))
            >>> e.gap(2)
            raises InvalidAttempt(attempt=2)
        """)

    def test_e06(self):
        check_session(self, """
            >>> from retryslots.rules import Rule
            >>> r = Rule([1, 2], ('times', 2))
            >>> [r.first_from(8), r.first_from(-5), r.attempt_at(7), r.attempt_at(8)]
            [4, 0, 3, None]
        """)

    def test_e07(self):
        check_session(self, """
            >>> from retryslots.rules import Rule
            >>> Rule([0], ('end',))
            raises InvalidRule(part='gaps')
        """)

    def test_e09(self):
        check_session(self, """
            >>> from retryslots.rules import Rule
            >>> Rule([1], ('times', 2)).offset(1001)
            raises LimitExceeded(limit=1000)
        """)
