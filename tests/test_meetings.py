"""Points 13 to 16: the distances at which two clients share slots."""

import unittest
from itertools import product

from retryslots.differences import (
    count_distances, first_repetition, is_spread, most_shared, next_distance, shared_attempts,
)
from retryslots.errors import InvalidBound, InvalidSlot
from retryslots.rules import Rule
from tests.samples import attempt_call, no_integers
from tests.stepping import small_rules, stepped_differences

ALONE = Rule([], ("end",))
END = Rule([5, 3], ("end",))
DOUBLED = Rule([1, 2], ("times", 2))
TWICE = Rule([1, 1], ("times", 2))
ROUND = Rule([4, 1, 2], ("repeat", 2))
POWERS = [2 ** more for more in range(20)]
# Attempts so many that their pairs have all differences up to REACH, for every small rule.
STEPS = 60
REACH = 40


def swapped(pairs):
    """Return the sorted list of pairs with the later attempt first, as of two clients."""
    return sorted((second, first) for first, second in pairs)


class Shared(unittest.TestCase):
    def test_small_rules(self):
        for gaps, tail in small_rules():
            rule = Rule(gaps, tail)
            differences = stepped_differences(gaps, tail, STEPS)
            for distance in range(1, REACH + 1):
                expected = swapped(differences.get(distance, []))
                self.check_shared(rule, distance, expected)

    def check_shared(self, rule, distance, expected):
        single, repeating = shared_attempts(rule, distance)
        self.assertIsInstance(single, list)
        self.assertIsInstance(repeating, list)
        if rule.tail()[0] != "repeat":
            self.assertEqual((single, repeating), (expected, []), (rule.gaps(), rule.tail(), distance))
            return
        many = len(rule.gaps())
        first = many - rule.tail()[1]
        self.assertEqual(single, [(i, j) for i, j in expected if j < first])
        self.assertEqual(repeating, [(i, j) for i, j in expected if first <= j < many])

    def test_repeating_tuples_stand_for_all(self):
        for gaps, tail in small_rules():
            if tail[0] == "repeat":
                differences = stepped_differences(gaps, tail, STEPS)
                for distance in range(1, 20):
                    single, repeating = shared_attempts(Rule(gaps, tail), distance)
                    later = [(i + k * tail[1], j + k * tail[1]) for i, j in repeating for k in range(STEPS)]
                    together = sorted((i, j) for i, j in [*single, *later] if i < STEPS)
                    self.assertEqual(together, swapped(differences.get(distance, [])))

    def test_at_below_and_above_a_difference(self):
        self.assertEqual(shared_attempts(END, 8), ([(2, 0)], []))
        self.assertEqual(shared_attempts(END, 5), ([(1, 0)], []))
        self.assertEqual(shared_attempts(END, 3), ([(2, 1)], []))
        for distance in (1, 2, 4, 6, 7, 9, 10 ** 30):
            self.assertEqual(shared_attempts(END, distance), ([], []))
        self.assertEqual(shared_attempts(ALONE, 1), ([], []))

    def test_several_tuples(self):
        ones = Rule([1] * 20, ("end",))
        for distance in range(1, 21):
            expected = [(attempt + distance, attempt) for attempt in range(21 - distance)]
            self.assertEqual(shared_attempts(ones, distance), (expected, []))
        self.assertEqual(shared_attempts(ones, 21), ([], []))
        self.assertEqual(shared_attempts(TWICE, 2), ([(2, 0), (3, 2)], []))
        self.assertEqual(shared_attempts(Rule([1] * 20, ("repeat", 20)), 25),
                         ([], [(attempt + 25, attempt) for attempt in range(20)]))
        self.assertEqual(shared_attempts(Rule([1] * 20, ("repeat", 1)), 25),
                         ([(attempt + 25, attempt) for attempt in range(19)], [(44, 19)]))

    def test_thirty_digits(self):
        for low, high in ((5, 97), (0, 98), (95, 96)):
            distance = 2 ** high - 2 ** low
            self.assertEqual(shared_attempts(DOUBLED, distance), ([(high, low)], []))
        self.assertEqual(shared_attempts(DOUBLED, 2 ** 97 - 33), ([], []))
        far = 10 ** 29
        self.assertEqual(shared_attempts(ROUND, 3 * far), ([], [(2 * far + 1, 1), (2 * far + 2, 2)]))
        self.assertEqual(shared_attempts(ROUND, 3 * far + 4), ([(2 * far + 1, 0)], [(2 * far + 4, 1)]))
        self.assertEqual(shared_attempts(ROUND, 3 * far + 5), ([(2 * far + 2, 0)], [(2 * far + 5, 2)]))
        self.assertEqual(shared_attempts(ROUND, 3 * far + 6), ([], [(2 * far + 5, 1), (2 * far + 6, 2)]))

    def test_offsets_that_were_returned(self):
        last = DOUBLED.offset(1000)
        self.assertEqual(shared_attempts(DOUBLED, last), ([(1000, 0)], []))
        self.assertEqual(shared_attempts(DOUBLED, last + 1), ([(1001, 1000)], []))
        self.assertEqual(shared_attempts(DOUBLED, last - 1), ([(1000, 1)], []))
        self.assertEqual(shared_attempts(DOUBLED, last - 2), ([], []))
        self.assertEqual(shared_attempts(DOUBLED, Rule([1], ("times", 1000)).offset(1000)), ([], []))

    def test_document(self):
        self.assertEqual(shared_attempts(DOUBLED, 6), ([(3, 1)], []))
        self.assertEqual(shared_attempts(ROUND, 4), ([(1, 0)], [(4, 1)]))

    def test_results_are_new(self):
        for _ in range(2):
            single, repeating = shared_attempts(ROUND, 4)
            self.assertEqual((single, repeating), ([(1, 0)], [(4, 1)]))
            single.clear()
            repeating.append((0, 0))


class MostShared(unittest.TestCase):
    def test_small_rules(self):
        for gaps, tail in small_rules():
            found = most_shared(Rule(gaps, tail))
            differences = stepped_differences(gaps, tail, 25)
            if tail[0] == "repeat":
                self.assertIsNone(found)
            elif differences:
                most = max(len(pairs) for pairs in differences.values())
                least = min(distance for distance, pairs in differences.items() if len(pairs) == most)
                self.assertEqual(found, (most, least), (gaps, tail))
            else:
                self.assertEqual(found, (0, None))

    def test_one_attempt(self):
        self.assertEqual(most_shared(ALONE), (0, None))

    def test_spread_rules_share_one_slot(self):
        self.assertEqual(most_shared(END), (1, 3))
        self.assertEqual(most_shared(Rule([10 ** 12], ("times", 1000))), (1, 10 ** 12))
        self.assertEqual(most_shared(Rule(POWERS, ("end",))), (1, 1))
        for gaps, tail in small_rules():
            found = most_shared(Rule(gaps, tail))
            if found is not None and gaps:
                self.assertIs(is_spread(Rule(gaps, tail)), found[0] == 1)

    def test_many_slots(self):
        self.assertEqual(most_shared(Rule([1] * 20, ("end",))), (20, 1))
        self.assertEqual(most_shared(Rule([1] * 20, ("times", 2))), (20, 1))
        self.assertEqual(most_shared(Rule([10 ** 12] * 20, ("times", 1000))), (20, 10 ** 12))
        self.assertEqual(most_shared(Rule([3, 3, 1], ("end",))), (2, 3))
        self.assertEqual(most_shared(Rule([7, 1, 3, 3, 1], ("end",))), (3, 7))

    def test_later_attempts(self):
        late = 2 ** 39 - 2 ** 5
        rule = Rule([late - 2 ** 3 + 1, 1], ("times", 2))
        self.assertEqual(first_repetition(rule), ((0, 4), (6, 40)))
        self.assertEqual(most_shared(rule), (2, late))
        self.assertEqual(most_shared(Rule([1000999999, 1], ("times", 1000))), (2, 1001000000))
        self.assertEqual(most_shared(Rule([6, 3], ("times", 2))), (2, 6))

    def test_repeating_gaps(self):
        for many in range(1, 21):
            self.assertIsNone(most_shared(Rule(POWERS, ("repeat", many))))

    def test_document(self):
        self.assertEqual(most_shared(TWICE), (2, 1))


class NextDistances(unittest.TestCase):
    def test_small_rules(self):
        for gaps, tail in small_rules():
            rule = Rule(gaps, tail)
            differences = stepped_differences(gaps, tail, STEPS)
            for distance in range(1, REACH + 1):
                least = min((found for found in differences if found >= distance), default=None)
                expected = None if least is None else (least, swapped(differences[least])[0])
                self.assertEqual(next_distance(rule, distance), expected, (gaps, tail, distance))

    def test_at_below_and_above_a_difference(self):
        found = [next_distance(END, distance) for distance in (1, 2, 3, 4, 5, 6, 7, 8, 9, 10 ** 30)]
        expected = [(3, (2, 1))] * 3 + [(5, (1, 0))] * 2 + [(8, (2, 0))] * 3 + [None] * 2
        self.assertEqual(found, expected)

    def test_no_distance(self):
        for distance in (1, 2, 10 ** 30):
            self.assertIsNone(next_distance(ALONE, distance))
            self.assertIsNone(next_distance(Rule([1] * 20, ("end",)), 20 + distance))
        for rule in (DOUBLED, ROUND, Rule([10 ** 12], ("times", 1000)), Rule([10 ** 12], ("repeat", 1))):
            self.assertIsNotNone(next_distance(rule, 10 ** 30))

    def test_least_tuple(self):
        self.assertEqual(next_distance(Rule([1] * 20, ("end",)), 4), (4, (4, 0)))
        self.assertEqual(next_distance(TWICE, 3), (3, (3, 1)))
        self.assertEqual(next_distance(TWICE, 2), (2, (2, 0)))
        self.assertEqual(next_distance(Rule([9, 2, 2], ("repeat", 2)), 4), (4, (3, 1)))

    def test_thirty_digits(self):
        self.assertEqual(next_distance(DOUBLED, 2 ** 98 - 2 ** 40 + 1), (2 ** 98 - 2 ** 39, (98, 39)))
        self.assertEqual(next_distance(DOUBLED, 2 ** 98 - 2 ** 40), (2 ** 98 - 2 ** 40, (98, 40)))
        self.assertEqual(next_distance(DOUBLED, 2 ** 98 + 1), (2 ** 99 - 2 ** 97, (99, 97)))
        far = 10 ** 29
        spaced = Rule([7, 50], ("repeat", 1))
        self.assertEqual(next_distance(spaced, 50 * far - 1), (50 * far, (far + 1, 1)))
        self.assertEqual(next_distance(spaced, 50 * far + 1), (50 * far + 7, (far + 1, 0)))
        self.assertEqual(next_distance(spaced, 50 * far + 8), (50 * far + 50, (far + 2, 1)))

    def test_offsets_that_were_returned(self):
        last = DOUBLED.offset(1000)
        self.assertEqual(next_distance(DOUBLED, last), (last, (1000, 0)))
        self.assertEqual(next_distance(DOUBLED, last + 1), (last + 1, (1001, 1000)))
        self.assertEqual(next_distance(DOUBLED, last + 2), (3 * 2 ** 999, (1001, 999)))

    def test_document(self):
        self.assertEqual(next_distance(DOUBLED, 5), (6, (3, 1)))


class Counts(unittest.TestCase):
    def test_small_rules(self):
        for gaps, tail in small_rules():
            rule = Rule(gaps, tail)
            differences = stepped_differences(gaps, tail, STEPS)
            for limit in range(REACH + 1):
                expected = len([distance for distance in differences if distance <= limit])
                self.assertEqual(count_distances(rule, limit), expected, (gaps, tail, limit))

    def test_longer_limits(self):
        rules = [([8, 3, 1], ("times", 2)), ([4, 4, 2, 2], ("times", 2)), ([9, 7, 1], ("times", 3)),
                 ([20, 30, 7], ("times", 1000)), ([1] * 20, ("times", 2)), ([3 ** 9, 1], ("times", 2))]
        for gaps, tail in rules:
            differences = sorted(stepped_differences(gaps, tail, len(gaps) + 40))
            last = Rule(gaps, tail).gap(len(gaps) + 38)
            for at, distance in enumerate(differences[:differences.index(last)]):
                for limit, expected in ((distance - 1, at), (distance, at + 1)):
                    self.assertEqual(count_distances(Rule(gaps, tail), limit), expected, (gaps, tail, limit))

    def test_limits_0_and_1(self):
        for rule in (ALONE, END, DOUBLED, TWICE, ROUND):
            self.assertEqual(count_distances(rule, 0), 0)
        self.assertEqual([count_distances(rule, 1) for rule in (ALONE, END, DOUBLED, TWICE, ROUND)], [0, 0, 1, 1, 1])

    def test_finite_rules(self):
        self.assertEqual([count_distances(END, limit) for limit in (2, 3, 4, 5, 7, 8, 9, 10 ** 30)],
                         [0, 1, 1, 2, 2, 3, 3, 3])
        self.assertEqual(count_distances(Rule(POWERS, ("end",)), 10 ** 30), 210)
        self.assertEqual(count_distances(Rule([10 ** 12] * 20, ("end",)), 10 ** 30), 20)
        self.assertEqual(count_distances(ALONE, 10 ** 30), 0)

    def test_thirty_digits_with_growing_gaps(self):
        differences = sorted(2 ** high - 2 ** low for high in range(102) for low in range(high))
        for limit in (10 ** 29, 10 ** 30, 2 ** 98, 2 ** 98 - 1, 2 ** 98 - 2, 2 ** 99 - 2 ** 60, 2 ** 99 - 2 ** 60 - 1):
            expected = len([distance for distance in differences if distance <= limit])
            self.assertEqual(count_distances(DOUBLED, limit), expected)
        # The offsets 0, 1, 2, 4, .. of TWICE add a difference 2 ** k for each k, but have it already.
        self.assertEqual(count_distances(TWICE, 2 ** 98), count_distances(DOUBLED, 2 ** 98))

    def test_thirty_digits_with_repeating_gaps(self):
        far = 10 ** 29
        self.assertEqual(count_distances(ROUND, far), far)
        # The even differences, and the odd ones from 7 on.
        self.assertEqual(count_distances(Rule([7, 2], ("repeat", 1)), 2 * far), 2 * far - 3)
        self.assertEqual(count_distances(Rule([7, 2], ("repeat", 1)), 2 * far + 1), 2 * far - 2)
        # The offsets 0, 2, 6, 12, 18, ..: a single 2, the multiples of 6, and 4, 10, 16, ..
        spaced = Rule([2, 4, 6], ("repeat", 1))
        self.assertEqual([count_distances(spaced, 6 * far + more) for more in range(-1, 5)],
                         [2 * far, 2 * far + 1, 2 * far + 1, 2 * far + 1, 2 * far + 1, 2 * far + 2])

    def test_offsets_that_were_returned(self):
        # 2 ** high - 2 ** low with high up to 1000.
        self.assertEqual(count_distances(DOUBLED, DOUBLED.offset(1000)), 1000 * 1001 // 2)
        self.assertEqual(count_distances(TWICE, TWICE.offset(1000)), 999 * 1000 // 2 + 1)
        self.assertEqual(count_distances(Rule([1], ("times", 1000)), Rule([1], ("times", 1000)).offset(1000)),
                         1000 * 1001 // 2)

    def test_document(self):
        self.assertEqual(count_distances(DOUBLED, 10), 7)


class Arguments(unittest.TestCase):
    RULES = (ALONE, END, DOUBLED, TWICE, ROUND)

    def test_no_distances(self):
        for rule, call in product(self.RULES, (shared_attempts, next_distance)):
            for distance in [*no_integers(), 0, -1, -6, -10 ** 30]:
                error = attempt_call(self, InvalidSlot, call, rule, distance)
                self.assertEqual(list(vars(error)), ["slot"])
                self.assertIs(error.slot, distance)

    def test_no_limits(self):
        for rule in self.RULES:
            for limit in [*no_integers(), -1, -10 ** 30]:
                error = attempt_call(self, InvalidBound, count_distances, rule, limit)
                self.assertEqual(vars(error), {"part": "limit"})

    def test_arguments_by_name(self):
        self.assertEqual(shared_attempts(distance=6, rule=DOUBLED), ([(3, 1)], []))
        self.assertEqual(next_distance(distance=5, rule=DOUBLED), (6, (3, 1)))
        self.assertEqual(count_distances(limit=10, rule=DOUBLED), 7)
        self.assertEqual(most_shared(rule=TWICE), (2, 1))

    def test_rules_are_unchanged(self):
        for rule in self.RULES:
            other = Rule(rule.gaps(), rule.tail())
            for call in (is_spread, first_repetition, most_shared):
                self.assertEqual(call(rule), call(other))
            for call in (shared_attempts, next_distance, count_distances):
                self.assertEqual(call(rule, 12), call(other, 12))
            self.assertEqual(rule, other)


if __name__ == "__main__":
    unittest.main()
