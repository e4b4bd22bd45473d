"""Points 6, 7, 9 and 10: attempts, gaps, offsets, periods and least gaps."""

import unittest
from itertools import product

from retryslots.errors import InvalidAttempt, LimitExceeded
from retryslots.rules import Rule
from tests.samples import attempt_call, no_integers
from tests.stepping import small_rules, stepped_gaps

END = Rule([5, 3], ("end",))
DOUBLED = Rule([1, 2], ("times", 2))
ROUND = Rule([4, 1, 2], ("repeat", 2))
ALONE = Rule([], ("end",))


class Attempts(unittest.TestCase):
    def test_numbers(self):
        for many in range(21):
            self.assertEqual(Rule([2] * many, ("end",)).attempts(), many + 1)
        for many in range(1, 21):
            self.assertIsNone(Rule([2] * many, ("times", 2)).attempts())
            self.assertIsNone(Rule([2] * many, ("repeat", many)).attempts())

    def test_as_stepped(self):
        for gaps, tail in small_rules():
            rule = Rule(gaps, tail)
            offset = 0
            for attempt, gap in enumerate(stepped_gaps(gaps, tail, 15)):
                self.assertEqual(rule.offset(attempt), offset, (gaps, tail, attempt))
                self.assertEqual(rule.gap(attempt), gap, (gaps, tail, attempt))
                offset += gap

    def test_last_attempt(self):
        for many in range(21):
            rule = Rule([2] * many, ("end",))
            self.assertEqual(rule.offset(many), 2 * many)
            self.check_invalid(rule.gap, many)
            self.check_invalid(rule.offset, many + 1)
            if many > 0:
                self.assertEqual(rule.gap(many - 1), 2)

    def test_arguments_by_name(self):
        self.assertEqual(DOUBLED.gap(attempt=3), 8)
        self.assertEqual(DOUBLED.offset(attempt=4), 15)

    def test_document(self):
        self.assertEqual((DOUBLED.gap(1), DOUBLED.gap(3), END.attempts()), (2, 8, 3))
        self.assertEqual([DOUBLED.offset(attempt) for attempt in range(5)], [0, 1, 3, 7, 15])
        self.assertEqual([ROUND.offset(attempt) for attempt in range(7)], [0, 4, 5, 7, 8, 10, 11])

    def test_no_attempts(self):
        for rule in (END, DOUBLED, ROUND, ALONE):
            for attempt in [*no_integers(), -1, -2, -10 ** 30]:
                self.check_invalid(rule.gap, attempt)
                self.check_invalid(rule.offset, attempt)

    def test_attempts_behind_the_end(self):
        for attempt in (3, 4, 1000, 1001, 10 ** 30):
            self.check_invalid(END.gap, attempt)
            self.check_invalid(END.offset, attempt)
        for attempt in (1, 2, 10 ** 30):
            self.check_invalid(ALONE.gap, attempt)
            self.check_invalid(ALONE.offset, attempt)
        self.check_invalid(END.gap, 2)
        self.check_invalid(ALONE.gap, 0)
        self.assertEqual((END.offset(2), ALONE.offset(0)), (8, 0))

    def check_invalid(self, call, attempt):
        error = attempt_call(self, InvalidAttempt, call, attempt)
        self.assertEqual(list(vars(error)), ["attempt"])
        self.assertIs(error.attempt, attempt)


class Growing(unittest.TestCase):
    def test_powers(self):
        for factor in (2, 3, 10, 1000):
            rule = Rule([7], ("times", factor))
            for attempt in (0, 1, 2, 63, 64, 65, 999, 1000):
                self.assertEqual(rule.gap(attempt), 7 * factor ** attempt)
                self.assertEqual(rule.offset(attempt), 7 * (factor ** attempt - 1) // (factor - 1))

    def test_last_listed_gap_grows(self):
        rule = Rule([9, 1, 4], ("times", 5))
        self.assertEqual([rule.gap(attempt) for attempt in range(6)], [9, 1, 4, 20, 100, 500])
        self.assertEqual(rule.gap(1000), 4 * 5 ** 998)
        self.assertEqual(rule.offset(1000), 10 + sum(4 * 5 ** more for more in range(998)))

    def test_greatest_numbers(self):
        rule = Rule([10 ** 12] * 20, ("times", 1000))
        self.assertEqual(rule.gap(1000), 10 ** 12 * 1000 ** 981)
        self.assertEqual(rule.offset(1000), 19 * 10 ** 12 + sum(10 ** 12 * 1000 ** more for more in range(981)))

    def test_limit(self):
        for many, factor in product((1, 2, 20), (2, 1000)):
            rule = Rule([3] * many, ("times", factor))
            for attempt in (1001, 1002, 10 ** 6, 10 ** 29, 10 ** 30):
                for call in (rule.gap, rule.offset):
                    self.assertEqual(vars(attempt_call(self, LimitExceeded, call, attempt)), {"limit": 1000})

    def test_no_limit_for_other_tails(self):
        self.assertEqual((ROUND.offset(1001), ROUND.gap(1001)), (4 + 500 * 3, 1))
        self.assertEqual((ROUND.offset(1002), ROUND.gap(1002)), (4 + 500 * 3 + 1, 2))


class Repeating(unittest.TestCase):
    def test_thirty_digits(self):
        self.assertEqual(ROUND.offset(10 ** 20), 15 * 10 ** 19 + 2)
        self.assertEqual(ROUND.offset(1 + 2 * 10 ** 29), 4 + 3 * 10 ** 29)
        self.assertEqual(ROUND.offset(2 + 2 * 10 ** 29), 5 + 3 * 10 ** 29)
        self.assertEqual((ROUND.gap(1 + 2 * 10 ** 29), ROUND.gap(2 * 10 ** 29)), (1, 2))
        self.assertEqual(Rule([1], ("repeat", 1)).offset(10 ** 30 - 1), 10 ** 30 - 1)

    def test_twenty_gaps(self):
        rule = Rule(list(range(1, 21)), ("repeat", 20))
        self.assertEqual(rule.offset(20 * 10 ** 28 + 3), 210 * 10 ** 28 + 6)
        self.assertEqual(rule.gap(20 * 10 ** 28 + 3), 4)

    def test_one_period_later(self):
        for gaps, tail in small_rules():
            if tail[0] == "repeat":
                rule = Rule(gaps, tail)
                for attempt in range(len(gaps) - tail[1], 12):
                    later = rule.offset(attempt + tail[1])
                    self.assertEqual(later, rule.offset(attempt) + rule.period())


class Periods(unittest.TestCase):
    def test_periods(self):
        gaps = [8, 4, 2, 1]
        periods = [Rule(gaps, ("repeat", many)).period() for many in (1, 2, 3, 4)]
        self.assertEqual(periods, [1, 3, 7, 15])
        self.assertEqual(ROUND.period(), 3)
        self.assertEqual(Rule([10 ** 12] * 20, ("repeat", 20)).period(), 20 * 10 ** 12)

    def test_other_tails(self):
        for rule in (END, DOUBLED, ALONE):
            self.assertIsNone(rule.period())


class LeastGaps(unittest.TestCase):
    def test_least_gaps(self):
        for gaps in ([4, 1, 2], [1, 4, 2], [2, 4, 1]):
            for tail in (("end",), ("times", 2), ("repeat", 1), ("repeat", 3)):
                self.assertEqual(Rule(gaps, tail).least_gap(), 1)
        self.assertEqual(Rule([10 ** 12], ("times", 1000)).least_gap(), 10 ** 12)
        self.assertEqual(Rule([3, 5], ("repeat", 1)).least_gap(), 3)

    def test_one_attempt(self):
        self.assertIsNone(ALONE.least_gap())


if __name__ == "__main__":
    unittest.main()
