"""Points 39 and 40: the explanations of a log."""

import random
import unittest
from itertools import product

from retryslots.errors import InvalidBound, LimitExceeded
from retryslots.logs import expected_log, explanations, is_explanation
from retryslots.rules import Rule
from tests.changes import FAR
from tests.samples import check_fields, endless_list, no_integers
from tests.stepped_logs import changed_log, small_windows, stepped_explanations, stepped_log

END = Rule([5, 3], ("end",))
EACH = Rule([1], ("repeat", 1))
EVEN = Rule([2], ("repeat", 1))
DOUBLED = Rule([1], ("times", 2))
ALONE = Rule([], ("end",))


class IsExplanation(unittest.TestCase):
    def test_document(self):
        self.assertIs(is_explanation(END, (0, 3), [(0, 1)], [-5]), True)

    def test_small_windows(self):
        chance = random.Random(71)
        found = {True: 0, False: 0}
        for gaps, tail, window, starts in small_windows(1500, 72):
            log = stepped_log(gaps, tail, window, starts)
            if chance.randint(0, 3) == 0:
                log = changed_log(log, window, chance)
            value = sorted(starts) if chance.randint(0, 3) else starts
            expected = (value == sorted(value) and stepped_log(gaps, tail, window, value) == log
                        and all(stepped_log(gaps, tail, window, [start]) for start in value))
            self.assertIs(is_explanation(Rule(gaps, tail), window, log, value), expected)
            found[expected] += 1
        self.assertGreater(min(found.values()), 200)

    def test_ascending(self):
        log = expected_log(END, (0, 10), [0, 1, 1])
        self.assertIs(is_explanation(END, (0, 10), log, [0, 1, 1]), True)
        for value in ([1, 0, 1], [1, 1, 0], [0, 1], [0, 1, 1, 1], [0, 0, 1]):
            self.assertIs(is_explanation(END, (0, 10), log, value), False)

    def test_each_makes_an_attempt_in_the_window(self):
        self.assertIs(is_explanation(END, (0, 3), [(0, 1)], [-9, -5]), False)
        self.assertIs(is_explanation(END, (0, 3), [(0, 1)], [-5, 3]), False)
        # The attempts of this start lie before and behind the window.
        self.assertIs(is_explanation(END, (0, 3), [(0, 1)], [-5, -4]), False)
        self.assertIs(is_explanation(END, (0, 3), [(0, 1), (1, 1)], [-5, -4]), True)
        self.assertIs(is_explanation(END, (0, 3), [], []), True)
        self.assertIs(is_explanation(END, (0, 3), [], [-FAR]), False)
        self.assertIs(is_explanation(END, (0, 3), [(0, 1)], []), False)

    def test_forty_clients(self):
        self.assertIs(is_explanation(ALONE, (0, 9), [(3, 40)], [3] * 40), True)
        self.assertIs(is_explanation(ALONE, (0, 9), [(3, 41)], [3] * 41), False)
        full = [(at, 40) for at in range(500)]
        self.assertIs(is_explanation(EACH, (0, 500), full, [-FAR] * 20 + [-5] * 19 + [0]), True)
        self.assertIs(is_explanation(EACH, (0, 500), full, [-FAR] * 20 + [-5] * 19 + [1]), False)

    def test_more_slots_than_a_log_has(self):
        full = [(at, 1) for at in range(500)]
        self.assertIs(is_explanation(EACH, (0, 501), full, [0]), False)
        self.assertIs(is_explanation(EACH, (0, FAR), full, [0]), False)
        self.assertIs(is_explanation(EVEN, (0, 501), full, [0, 1]), False)
        self.assertIs(is_explanation(DOUBLED, (-FAR, FAR), [], [-FAR]), False)

    def test_other_objects(self):
        values = [value for value in no_integers() if not isinstance(value, list) or value]
        values += [0, (0,), (-5,), ((-5,),), {-5: 1}, {-5}, "-5", range(-5, -4), endless_list(), [0] * 41, [None] * 41]
        for wrong in no_integers():
            values += [[wrong], [-5, wrong], [wrong, -5]]
        for value in values:
            self.assertIs(is_explanation(END, (0, 3), [(0, 1)], value), False)
            self.assertIs(is_explanation(END, (0, 3), [], value), False)

    def test_the_value_is_unchanged(self):
        value = [0, -5]
        is_explanation(END, (0, 3), [(0, 2)], value)
        self.assertEqual(value, [0, -5])


class Explanations(unittest.TestCase):
    def check_explanations(self, gaps, tail, window, log, earliest, most):
        rule = Rule(gaps, tail)
        expected = stepped_explanations(gaps, tail, window, log, earliest, most)
        self.assertEqual(explanations(rule, window, log, earliest, most), expected, (gaps, tail, window, log, earliest))
        for value in expected[:5]:
            self.assertIs(is_explanation(rule, window, log, value), True)
        return len(expected)

    def test_document(self):
        self.assertEqual(explanations(END, (0, 3), [(0, 1)], -8, 1), [[-8], [-5], [0]])

    def test_small_windows(self):
        chance = random.Random(73)
        found = 0
        for gaps, tail, window, starts in small_windows(250, 74):
            starts = starts[:3]
            log = changed_log(stepped_log(gaps, tail, window, starts), window, chance)
            for most in range(4):
                earliest = window[0] - chance.randint(0, 9)
                found += self.check_explanations(gaps, tail, window, log, earliest, most)
            found += self.check_explanations(gaps, tail, window, stepped_log(gaps, tail, window, starts),
                                             window[0] - 9, 3)
        self.assertGreater(found, 500)

    def test_all_logs_of_two_slots(self):
        for gaps, tail in (([1], ("repeat", 1)), ([1, 2], ("end",)), ([1], ("times", 2)), ([], ("end",))):
            for one, other in product(range(4), repeat=2):
                log = [(slot, count) for slot, count in ((0, one), (1, other)) if count > 0]
                self.check_explanations(gaps, tail, (0, 2), log, -6, 3)

    def test_earliest_start(self):
        self.assertEqual(explanations(END, (0, 3), [(0, 1)], -7, 1), [[-5], [0]])
        self.assertEqual(explanations(END, (0, 3), [(0, 1)], -5, 1), [[-5], [0]])
        self.assertEqual(explanations(END, (0, 3), [(0, 1)], -4, 1), [[0]])
        self.assertEqual(explanations(END, (0, 3), [(0, 1)], 0, 1), [[0]])
        self.assertEqual(explanations(END, (0, 3), [(0, 1)], -FAR, 1), [[-8], [-5], [0]])

    def test_numbers_of_clients(self):
        self.assertEqual(explanations(ALONE, (0, 3), [(0, 3), (1, 1)], 0, 3), [])
        self.assertEqual(explanations(ALONE, (0, 3), [(0, 2), (1, 1)], 0, 3), [[0, 0, 1]])
        self.assertEqual(explanations(ALONE, (0, 3), [(0, 2), (1, 1)], 0, 2), [])
        self.assertEqual(explanations(ALONE, (0, 3), [(0, 3)], 0, 3), [[0, 0, 0]])
        self.assertEqual(explanations(ALONE, (0, 3), [(0, 1)], 0, 0), [])
        self.assertEqual(explanations(ALONE, (0, 3), [(0, FAR)], 0, 3), [])

    def test_empty_log(self):
        for rule in (END, EVEN, DOUBLED, ALONE):
            for most in range(4):
                self.assertEqual(explanations(rule, (0, 3), [], -8, most), [[]])

    def test_sorted_as_python_does(self):
        # One client explains the log, and so do two.
        found = explanations(Rule([1, 1], ("end",)), (0, 2), [(0, 1), (1, 1)], -2, 2)
        self.assertEqual(found, [[-2, 1], [-1], [0]])

    def test_sixty_attempts_and_more(self):
        self.assertEqual(len(explanations(EACH, (0, 1), [(0, 1)], -59, 1)), 60)
        for log, most in (([(0, 1)], 1), ([], 0), ([(0, 3)], 3)):
            check_fields(self, LimitExceeded(60), explanations, EACH, (0, 1), log, -60, most)
            check_fields(self, LimitExceeded(60), explanations, EACH, (0, 61), log, 0, most)
            check_fields(self, LimitExceeded(60), explanations, EACH, (0, FAR), log, -FAR, most)
        self.assertEqual(explanations(EACH, (0, 60), [(at, 1) for at in range(7, 60)], 0, 1), [[7]])
        self.assertEqual(explanations(EVEN, (0, 1), [(0, 1)], -119, 1), [[at] for at in range(-118, 2, 2)])
        check_fields(self, LimitExceeded(60), explanations, EVEN, (0, 1), [(0, 1)], -120, 1)

    def test_a_thousand_explanations_and_more(self):
        # With earliest start -k there are (k + 1) (k + 2) / 2 pairs.
        for earliest, many in ((-42, 946), (-43, 990)):
            self.assertEqual(len(explanations(EACH, (0, 1), [(0, 2)], earliest, 2)), many)
        check_fields(self, LimitExceeded(1000), explanations, EACH, (0, 1), [(0, 2)], -44, 2)
        check_fields(self, LimitExceeded(1000), explanations, EACH, (0, 1), [(0, 3)], -59, 3)

    def test_exactly_a_thousand(self):
        # Each of three slots has ten starts from slot -900 on, and the last one of them an eleventh in slot -991.
        rule = Rule([100], ("repeat", 1))
        log = [(0, 1), (7, 1), (9, 1)]
        found = explanations(rule, (0, 30), log, -900, 3)
        self.assertEqual(found, sorted(sorted([0 - 100 * one, 7 - 100 * two, 9 - 100 * three])
                                       for one, two, three in product(range(10), repeat=3)))
        self.assertEqual(len(explanations(rule, (0, 30), log, -990, 3)), 1000)
        check_fields(self, LimitExceeded(1000), explanations, rule, (0, 30), log, -991, 3)

    def test_long_numbers(self):
        rule = Rule([1], ("times", 4))
        starts = [-FAR, -FAR, 5 - FAR]
        log = expected_log(rule, (-FAR + 10 ** 20, FAR), starts)
        self.assertEqual(explanations(rule, (-FAR + 10 ** 20, FAR), log, -FAR - 1, 3), [starts])
        rule = Rule([10 ** 12], ("repeat", 1))
        self.assertEqual(explanations(rule, (FAR, FAR + 1), [(FAR, 1)], FAR - 2 * 10 ** 12, 2),
                         [[FAR - 2 * 10 ** 12], [FAR - 10 ** 12], [FAR]])
        rule = Rule([1], ("times", 1000))
        starts = [0, 10 ** 20, 10 ** 25 + 7]
        log = expected_log(rule, (0, 10 ** 26), starts)
        self.assertIn(starts, explanations(rule, (0, 10 ** 26), log, 0, 3))

    def test_greatest_searches(self):
        for counts in ([2] * 19 + [3], [1] * 10 + [2] * 10, [3] * 5 + [2] * 5 + [3] * 5):
            log = list(enumerate(counts))
            found = explanations(EACH, (0, len(log)), log, -30, 3)
            self.assertTrue(all(is_explanation(EACH, (0, len(log)), log, value) for value in found))

    def test_errors_in_their_order(self):
        for wrong in [*no_integers(), 1, 2, FAR]:
            check_fields(self, InvalidBound("earliest"), explanations, EACH, (0, FAR), [(0, 1)], wrong, None)
            check_fields(self, InvalidBound("earliest"), explanations, EACH, (0, 3), [(0, 1)], wrong, 1)
        for wrong in [*no_integers(), -1, 4, FAR]:
            check_fields(self, InvalidBound("most"), explanations, EACH, (0, FAR), [(0, 1)], 0, wrong)
            check_fields(self, InvalidBound("most"), explanations, END, (0, 3), [], -FAR, wrong)

    def test_results_are_new(self):
        log = [(0, 1)]
        found = explanations(END, (0, 3), log, -8, 1)
        found[0].append(7)
        found.clear()
        self.assertEqual((log, explanations(END, (0, 3), log, -8, 1)), ([(0, 1)], [[-8], [-5], [0]]))
        explanations(END, (0, 3), [], 0, 1)[0].append(5)
        self.assertEqual(explanations(END, (0, 3), [], 0, 1), [[]])


if __name__ == "__main__":
    unittest.main()
