"""Point 8: the attempts from a distance on and at a distance."""

import unittest

from retryslots.errors import InvalidSlot
from retryslots.rules import Rule
from tests.samples import attempt_call, no_integers
from tests.stepping import small_rules, stepped_offsets

END = Rule([5, 3], ("end",))
DOUBLED = Rule([1, 2], ("times", 2))
ROUND = Rule([4, 1, 2], ("repeat", 2))
ALONE = Rule([], ("end",))


class Distances(unittest.TestCase):
    def test_as_stepped(self):
        for gaps, tail in small_rules():
            rule = Rule(gaps, tail)
            offsets = stepped_offsets(gaps, tail, 30)
            for distance in range(-3, 26):
                later = [attempt for attempt, offset in enumerate(offsets) if offset >= distance]
                first = later[0] if later else None
                exact = offsets.index(distance) if distance in offsets else None
                self.assertEqual(rule.first_from(distance), first, (gaps, tail, distance))
                self.assertEqual(rule.attempt_at(distance), exact, (gaps, tail, distance))

    def test_at_below_and_above_an_offset(self):
        for gaps, tail in small_rules():
            rule = Rule(gaps, tail)
            last = 60 if rule.attempts() is None else rule.attempts() - 1
            for attempt in range(last + 1):
                self.check_around(rule, attempt)

    def check_around(self, rule, attempt):
        offset = rule.offset(attempt)
        self.assertEqual(rule.first_from(offset), attempt)
        self.assertEqual(rule.attempt_at(offset), attempt)
        below = rule.attempt_at(offset - 1)
        if attempt > 0 and rule.gap(attempt - 1) == 1:
            self.assertEqual((below, rule.first_from(offset - 1)), (attempt - 1, attempt - 1))
        else:
            self.assertEqual((below, rule.first_from(offset - 1)), (None, attempt))
        if attempt + 1 != rule.attempts():
            self.assertEqual(rule.first_from(offset + 1), attempt + 1)
        else:
            self.assertEqual((rule.first_from(offset + 1), rule.attempt_at(offset + 1)), (None, None))

    def test_negative_distances(self):
        for rule in (END, DOUBLED, ROUND, ALONE):
            for distance in (-1, -5, -10 ** 12, -10 ** 30):
                self.assertEqual(rule.first_from(distance), 0)
                self.assertIsNone(rule.attempt_at(distance))
            self.assertEqual((rule.first_from(0), rule.attempt_at(0)), (0, 0))

    def test_behind_the_end(self):
        for distance in (9, 10, 10 ** 30):
            self.assertEqual((END.first_from(distance), END.attempt_at(distance)), (None, None))
        self.assertEqual((END.first_from(8), END.attempt_at(8)), (2, 2))
        self.assertEqual((ALONE.first_from(1), ALONE.attempt_at(1)), (None, None))

    def test_document(self):
        self.assertEqual((DOUBLED.first_from(8), DOUBLED.first_from(-5)), (4, 0))
        self.assertEqual((DOUBLED.attempt_at(7), DOUBLED.attempt_at(8)), (3, None))
        self.assertIsNone(END.first_from(9))

    def test_arguments_by_name(self):
        self.assertEqual((ROUND.first_from(distance=6), ROUND.attempt_at(distance=5)), (3, 2))

    def test_no_integers(self):
        for rule in (END, DOUBLED, ROUND, ALONE):
            for slot in no_integers():
                for call in (rule.first_from, rule.attempt_at):
                    error = attempt_call(self, InvalidSlot, call, slot)
                    self.assertEqual(list(vars(error)), ["slot"])
                    self.assertIs(error.slot, slot)


class LongDistances(unittest.TestCase):
    def test_thirty_digits_with_a_period(self):
        far = 4 + 3 * 10 ** 29
        attempt = 1 + 2 * 10 ** 29
        self.assertEqual([ROUND.first_from(far + more) for more in (-1, 0, 1, 2, 3)],
                         [attempt, attempt, attempt + 1, attempt + 2, attempt + 2])
        self.assertEqual([ROUND.attempt_at(far + more) for more in (-1, 0, 1, 2, 3)],
                         [None, attempt, attempt + 1, None, attempt + 2])

    def test_thirty_digits_with_long_gaps(self):
        rule = Rule([10 ** 12] * 20, ("repeat", 20))
        self.assertEqual(rule.attempt_at(10 ** 30), 10 ** 18)
        self.assertEqual((rule.first_from(10 ** 30 + 1), rule.attempt_at(10 ** 30 + 1)), (10 ** 18 + 1, None))

    def test_thirty_digits_with_growing_gaps(self):
        offsets = [2 ** attempt - 1 for attempt in range(120)]
        for distance in (10 ** 29, 10 ** 30 - 1, 10 ** 30, 2 ** 99 - 1, 2 ** 99, 2 ** 99 - 2):
            first = min(attempt for attempt, offset in enumerate(offsets) if offset >= distance)
            self.assertEqual(DOUBLED.first_from(distance), first)
            self.assertEqual(DOUBLED.attempt_at(distance), first if offsets[first] == distance else None)

    def test_far_attempts_with_growing_gaps(self):
        for gaps in ([1], [10 ** 12], [10 ** 12, 1], [1, 1000, 7]):
            for factor in (2, 3, 4, 5, 8, 9, 10, 16, 17, 512, 513, 999, 1000):
                rule = Rule(gaps, ("times", factor))
                for attempt in (*range(1, 40), 63, 64, 65, 500, 999, 1000):
                    offset = rule.offset(attempt)
                    below = attempt - 1 if rule.offset(attempt - 1) == offset - 1 else attempt
                    found = [rule.first_from(offset + more) for more in (-1, 0, 1)]
                    self.assertEqual(found, [below, attempt, attempt + 1])

    def test_no_limit_for_growing_gaps(self):
        last = DOUBLED.offset(1000)
        self.assertEqual((DOUBLED.first_from(last), DOUBLED.attempt_at(last)), (1000, 1000))
        self.assertEqual((DOUBLED.first_from(last + 1), DOUBLED.attempt_at(last + 1)), (1001, None))
        beyond = last + DOUBLED.gap(1000)
        self.assertEqual((DOUBLED.first_from(beyond), DOUBLED.attempt_at(beyond)), (1001, 1001))

    def test_offsets_of_another_rule(self):
        far = Rule([10 ** 12], ("times", 1000)).offset(1000)
        first = far.bit_length()
        self.assertEqual((DOUBLED.first_from(far), DOUBLED.attempt_at(far)), (first, None))
        self.assertEqual(Rule([1], ("repeat", 1)).attempt_at(far), far)


if __name__ == "__main__":
    unittest.main()
