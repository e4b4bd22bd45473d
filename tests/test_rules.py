"""Points 2, 4 and 5: what makes a rule, its parts and its equality."""

import unittest

from retryslots.errors import InvalidRule
from retryslots.rules import Rule
from tests.samples import EqualToAll, Incomparable, attempt_call, endless_list, no_integers

METHODS = ["gaps", "tail", "attempts", "gap", "offset", "first_from", "attempt_at", "period", "least_gap"]


def invalid_gaps():
    """Return objects that are not gaps of any rule."""
    kinds = [value for value in no_integers() if not isinstance(value, list)]
    single = [[value] for value in no_integers()]
    later = [[1, value] for value in no_integers()]
    numbers = [[0], [-1], [10 ** 12 + 1], [10 ** 30], [-10 ** 30], [1] * 19 + [0], [0] + [1] * 19]
    return [*kinds, *single, *later, *numbers, endless_list(), [1] * 21, [1] * 1000, 5, -1, 10 ** 30]


def invalid_tails():
    """Return objects that are not the tail of any rule with two gaps."""
    words = ["", "End", "END", "end ", "ends", "time", "repeats", "none", b"end", b"times"]
    numbers = [0, 1, -1, -2, 1001, 10 ** 30]
    return [
        *no_integers(), *[(word,) for word in words], *[(word, 2) for word in words],
        *[(value,) for value in no_integers() if not isinstance(value, str)],
        *[(value, 2) for value in no_integers()],
        *[("times", value) for value in no_integers()], *[("times", number) for number in numbers],
        *[("repeat", value) for value in no_integers()], *[("repeat", number) for number in (0, -1, 3, 10 ** 30)],
        ("times",), ("repeat",), ("end", 2), ("end", None), ("end", ()), ("end", "end"), (2, "times"), (1, "repeat"),
        ("times", 2, 2), ("repeat", 1, 1), ("end", "end", "end"), (("end",),), ("times", (2,)), ("times", [2]),
        ["end"], ["times", 2], ["repeat", 1], "end", "times", {"times": 2}, {"end"}, 0, 2,
    ]


class Accepted(unittest.TestCase):
    def check_parts(self, gaps, tail):
        rule = Rule(gaps, tail)
        self.assertEqual(rule.gaps(), gaps)
        self.assertEqual(rule.tail(), tail)
        self.assertIsInstance(rule.gaps(), list)
        self.assertIsInstance(rule.tail(), tuple)

    def test_numbers_of_gaps(self):
        for many in range(21):
            self.check_parts([7] * many, ("end",))

    def test_edges_of_gaps(self):
        self.check_parts([1], ("end",))
        self.check_parts([10 ** 12], ("end",))
        self.check_parts([1, 10 ** 12] * 10, ("repeat", 20))

    def test_factors(self):
        for factor in (2, 3, 999, 1000):
            self.check_parts([1], ("times", factor))
            self.check_parts([10 ** 12] * 20, ("times", factor))

    def test_numbers_of_repeating_gaps(self):
        for many in range(1, 21):
            for repeating in range(1, many + 1):
                self.check_parts([3] * many, ("repeat", repeating))

    def test_arguments_by_name(self):
        self.assertEqual(Rule(tail=("times", 2), gaps=[1]), Rule([1], ("times", 2)))

    def test_methods_stand_in_the_class(self):
        self.assertEqual(Rule.__module__, "retryslots.rules")
        for name in [*METHODS, "__eq__"]:
            self.assertIn(name, vars(Rule))


class Refused(unittest.TestCase):
    def check_refused(self, part, gaps, tail):
        error = attempt_call(self, InvalidRule, Rule, gaps, tail)
        self.assertEqual(vars(error), {"part": part})

    def test_gaps(self):
        for gaps in invalid_gaps():
            self.check_refused("gaps", gaps, ("end",))

    def test_tails(self):
        for tail in invalid_tails():
            self.check_refused("tail", [1, 2], tail)

    def test_gaps_are_checked_first(self):
        for gaps in ([0], None, [1] * 21, (1, 2), [True]):
            for tail in (None, ["end"], ("times", 1), ("repeat", 9)):
                self.check_refused("gaps", gaps, tail)

    def test_times_without_gaps(self):
        for factor in (1, 2, 1000, 1001):
            self.check_refused("tail", [], ("times", factor))

    def test_repeat_of_too_many_gaps(self):
        for many in range(21):
            self.check_refused("tail", [1] * many, ("repeat", many + 1))
            self.check_refused("tail", [1] * many, ("repeat", 0))

    def test_arguments_are_unchanged(self):
        gaps = [1, 2, 0]
        attempt_call(self, InvalidRule, Rule, gaps, ("end",))
        self.assertEqual(gaps, [1, 2, 0])
        tail = ["times", 2]
        attempt_call(self, InvalidRule, Rule, [1], tail)
        self.assertEqual(tail, ["times", 2])

    def test_arguments_by_name(self):
        self.assertEqual(attempt_call(self, InvalidRule, Rule, gaps=None, tail=None).part, "gaps")
        self.assertEqual(attempt_call(self, InvalidRule, Rule, tail=None, gaps=[]).part, "tail")


class Copies(unittest.TestCase):
    def test_a_list_that_was_passed_in(self):
        gaps = [5, 3]
        rule = Rule(gaps, ("repeat", 2))
        gaps[0] = 100
        gaps.append(7)
        self.assert_as_made(rule)
        gaps.clear()
        self.assert_as_made(rule)

    def test_a_list_that_was_returned(self):
        rule = Rule([5, 3], ("repeat", 2))
        returned = rule.gaps()
        returned.append(9)
        returned[0] = 1
        self.assert_as_made(rule)
        self.assertIsNot(rule.gaps(), rule.gaps())

    def test_arguments_are_unchanged(self):
        gaps = [5, 3]
        tail = ("repeat", 2)
        self.assert_as_made(Rule(gaps, tail))
        self.assertEqual((gaps, tail), ([5, 3], ("repeat", 2)))

    def test_calls_change_nothing(self):
        rule = Rule([5, 3], ("repeat", 2))
        for _ in range(3):
            self.assert_as_made(rule)

    def assert_as_made(self, rule):
        self.assertEqual((rule.gaps(), rule.tail()), ([5, 3], ("repeat", 2)))
        self.assertEqual([rule.gap(attempt) for attempt in range(5)], [5, 3, 5, 3, 5])
        self.assertEqual([rule.offset(attempt) for attempt in range(5)], [0, 5, 8, 13, 16])
        self.assertEqual((rule.attempts(), rule.period(), rule.least_gap()), (None, 8, 3))
        self.assertEqual((rule.first_from(14), rule.attempt_at(13)), (4, 3))
        self.assertEqual(rule, Rule([5, 3], ("repeat", 2)))


class Equality(unittest.TestCase):
    RULES = [
        ([], ("end",)), ([1], ("end",)), ([1, 2], ("end",)), ([2, 1], ("end",)), ([1, 2], ("times", 2)),
        ([1, 2], ("times", 3)), ([1, 2], ("repeat", 2)), ([1, 2], ("repeat", 1)), ([1, 2, 4], ("times", 2)),
    ]

    def test_rules(self):
        # The rules 1, 2 and 1, 2, 4 with doubled gaps have the same offsets, but other parts.
        for at, one in enumerate(self.RULES):
            for where, other in enumerate(self.RULES):
                self.assertIs(Rule(*one) == Rule(*other), at == where)
                self.assertIs(Rule(*one) != Rule(*other), at != where)

    def test_other_objects(self):
        for parts in self.RULES:
            rule = Rule(*parts)
            for other in [*no_integers(), 0, 1, [*parts], parts, *parts, rule.gaps, Rule]:
                self.assertIs(rule == other, False)
                self.assertIs(rule != other, True)

    def test_no_object_decides_for_itself(self):
        rule = Rule([1], ("end",))
        self.assertIs(rule == EqualToAll(), False)
        self.assertIs(rule == Incomparable(), False)
        self.assertIs(rule == endless_list(), False)


if __name__ == "__main__":
    unittest.main()
