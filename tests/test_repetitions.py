"""Points 11 and 12: spread rules and repetitions."""

import unittest
from itertools import combinations, permutations

from retryslots import differences
from retryslots.differences import first_repetition, is_repetition, is_spread
from retryslots.rules import Rule
from tests.samples import no_integers
from tests.stepping import small_rules, stepped_differences, stepped_offsets

FUNCTIONS = ["is_spread", "first_repetition", "is_repetition", "shared_attempts", "most_shared", "next_distance",
             "count_distances"]
DOUBLED = Rule([1, 2], ("times", 2))
TWICE = Rule([1, 1], ("times", 2))
ROUND = Rule([4, 1, 2], ("repeat", 2))
# With these gaps the first repetition lies far behind the listed gaps.
LATE = [
    ([2 ** 39 - 2 ** 5 - 2 ** 3 + 1, 1], 2, ((0, 4), (6, 40))),
    ([1000999999, 1], 1000, ((0, 2), (3, 5))),
    ([10 ** 12, 5, 2 ** 38 - 2 ** 30 - 2 ** 9 + 1, 1], 2, ((2, 12), (33, 41))),
]


def stepped_repetition(gaps, tail):
    """Return the first repetition, from all pairs of all repetitions, or None."""
    for most in range(2, len(gaps) + 12):
        found = [pairs for pairs in stepped_differences(gaps, tail, most).values() if len(pairs) > 1]
        if found:
            return min(repetition for pairs in found for repetition in permutations(pairs, 2)
                       if repetition[0] < repetition[1])
    return None


class Interface(unittest.TestCase):
    def test_functions_are_defined_in_the_file(self):
        for name in FUNCTIONS:
            self.assertEqual(getattr(differences, name).__module__, "retryslots.differences")

    def test_arguments_by_name(self):
        self.assertIs(is_spread(rule=DOUBLED), True)
        self.assertEqual(first_repetition(rule=TWICE), ((0, 1), (1, 2)))
        self.assertIs(is_repetition(value=((0, 1), (1, 2)), rule=TWICE), True)


class Spread(unittest.TestCase):
    def test_small_rules(self):
        for gaps, tail in small_rules():
            expected = stepped_repetition(gaps, tail) is None
            self.assertIs(is_spread(Rule(gaps, tail)), expected, (gaps, tail))

    def test_no_gap_and_one_gap(self):
        self.assertIs(is_spread(Rule([], ("end",))), True)
        for gap in (1, 2, 10 ** 12):
            self.assertIs(is_spread(Rule([gap], ("end",))), True)
            for factor in (2, 3, 999, 1000):
                self.assertIs(is_spread(Rule([gap], ("times", factor))), True)

    def test_twenty_gaps(self):
        powers = [2 ** more for more in range(20)]
        for tail in (("end",), ("times", 2), ("times", 3), ("times", 1000)):
            self.assertIs(is_spread(Rule(powers, tail)), True)
        self.assertIs(is_spread(Rule([*powers[:19], 1], ("end",))), False)
        self.assertIs(is_spread(Rule([*powers[:19], 2 ** 19 - 1], ("end",))), False)
        self.assertIs(is_spread(Rule([10 ** 12 - gap for gap in powers], ("end",))), True)

    def test_a_gap_that_occurs_twice(self):
        for tail in (("end",), ("times", 2), ("times", 1000)):
            self.assertIs(is_spread(Rule([5, 1, 5], tail)), False)
            self.assertIs(is_spread(Rule([5, 5], tail)), False)
        # The second one is a further gap.
        self.assertIs(is_spread(Rule([6, 3], ("times", 2))), False)
        self.assertIs(is_spread(Rule([6, 3], ("times", 5))), True)
        self.assertIs(is_spread(Rule([3 * 10 ** 9, 3], ("times", 1000))), False)

    def test_repeating_gaps_are_never_spread(self):
        for many in range(1, 21):
            gaps = [3 ** more for more in range(many)]
            for repeating in range(1, many + 1):
                self.assertIs(is_spread(Rule(gaps, ("repeat", repeating))), False)

    def test_later_attempts(self):
        for gaps, factor, repetition in LATE:
            self.assertIs(is_spread(Rule(gaps, ("end",))), True)
            self.assertIs(is_spread(Rule(gaps, ("times", factor))), False)
        self.assertIs(is_spread(Rule([2 ** 39 - 2 ** 5 - 2 ** 3 + 2, 1], ("times", 2))), True)
        self.assertIs(is_spread(Rule([1000999998, 1], ("times", 1000))), True)

    def test_document(self):
        self.assertIs(is_spread(DOUBLED), True)


class FirstRepetitions(unittest.TestCase):
    def test_small_rules(self):
        for gaps, tail in small_rules():
            self.assertEqual(first_repetition(Rule(gaps, tail)), stepped_repetition(gaps, tail), (gaps, tail))

    def test_fewest_attempts_come_first(self):
        # The pair (0, 1) is repeated by (4, 5), but (3, 4) repeats (1, 2) with fewer attempts.
        self.assertEqual(first_repetition(Rule([50, 1, 7, 1, 50], ("end",))), ((1, 2), (3, 4)))
        # Both repetitions end with the same attempt, and the least one is returned.
        self.assertEqual(first_repetition(Rule([4, 1, 2, 5], ("end",))), ((0, 2), (3, 4)))

    def test_least_of_several(self):
        self.assertEqual(first_repetition(Rule([1] * 20, ("end",))), ((0, 1), (1, 2)))
        self.assertEqual(first_repetition(Rule([1, 2, 4, 7], ("end",))), ((0, 3), (3, 4)))
        self.assertEqual(first_repetition(Rule([9, 3, 1, 3, 9], ("end",))), ((1, 2), (3, 4)))

    def test_later_attempts(self):
        for gaps, factor, repetition in LATE:
            self.assertIsNone(first_repetition(Rule(gaps, ("end",))))
            self.assertEqual(first_repetition(Rule(gaps, ("times", factor))), repetition)

    def test_repeating_gaps(self):
        self.assertEqual(first_repetition(Rule([7], ("repeat", 1))), ((0, 1), (1, 2)))
        self.assertEqual(first_repetition(Rule([8, 4, 2, 1], ("repeat", 4))), ((0, 1), (4, 5)))
        powers = [2 ** more for more in range(20)]
        self.assertEqual(first_repetition(Rule(powers, ("repeat", 20))), ((0, 1), (20, 21)))
        self.assertEqual(first_repetition(Rule(powers, ("repeat", 19))), ((1, 2), (20, 21)))

    def test_spread_rules(self):
        for rule in (DOUBLED, Rule([], ("end",)), Rule([10 ** 12], ("times", 1000))):
            self.assertIsNone(first_repetition(rule))

    def test_document(self):
        self.assertEqual(first_repetition(TWICE), ((0, 1), (1, 2)))


class Repetitions(unittest.TestCase):
    def test_small_rules(self):
        for gaps, tail in small_rules():
            rule = Rule(gaps, tail)
            offsets = stepped_offsets(gaps, tail, 6)
            pairs = list(combinations(range(len(offsets)), 2))
            for one, other in [(one, other) for one in pairs for other in pairs]:
                same = offsets[one[1]] - offsets[one[0]] == offsets[other[1]] - offsets[other[0]]
                self.assertIs(is_repetition(rule, (one, other)), same and one != other)

    def test_either_order(self):
        for gaps, factor, repetition in LATE:
            rule = Rule(gaps, ("times", factor))
            self.assertIs(is_repetition(rule, repetition), True)
            self.assertIs(is_repetition(rule, repetition[::-1]), True)
            self.assertIs(is_repetition(rule, (repetition[0], repetition[0])), False)
        self.assertIs(is_repetition(TWICE, ((2, 3), (0, 2))), True)
        self.assertIs(is_repetition(TWICE, ((0, 2), (2, 3))), True)

    def test_pairs_are_ascending(self):
        for value in (((1, 0), (1, 2)), ((0, 1), (2, 1)), ((1, 0), (2, 1)), ((0, 0), (1, 1)), ((0, 1), (1, 1))):
            self.assertIs(is_repetition(TWICE, value), False)

    def test_attempts_of_the_rule(self):
        rule = Rule([1, 1, 1], ("end",))
        self.assertIs(is_repetition(rule, ((0, 1), (2, 3))), True)
        for value in (((0, 1), (3, 4)), ((3, 4), (0, 1)), ((-1, 0), (0, 1)), ((0, 1), (-1, 0)), ((4, 5), (5, 6))):
            self.assertIs(is_repetition(rule, value), False)

    def test_limit_of_growing_gaps(self):
        self.assertIs(is_repetition(TWICE, ((999, 1000), (0, 999))), True)
        for value in (((1000, 1001), (0, 1000)), ((0, 1000), (1000, 1001)), ((0, 1), (1, 1001)),
                      ((10 ** 29, 10 ** 30), (0, 10 ** 29))):
            self.assertIs(is_repetition(TWICE, value), False)

    def test_thirty_digits(self):
        far = 10 ** 29
        self.assertIs(is_repetition(ROUND, ((1, 3), (far + 1, far + 3))), True)
        self.assertIs(is_repetition(ROUND, ((2, far), (4, far + 2))), True)
        self.assertIs(is_repetition(ROUND, ((2, far), (3, far + 1))), True)
        self.assertIs(is_repetition(ROUND, ((2, far + 1), (3, far + 2))), False)
        self.assertIs(is_repetition(ROUND, ((0, far), (2, far + 2))), False)

    def test_other_objects(self):
        values = [*no_integers(), 0, 5, ((0, 1),), ((0, 1), (1, 2), (2, 3)), (0, 1), [(0, 1), (1, 2)],
                  ([0, 1], (1, 2)), ((0, 1), [1, 2]), ((0,), (1, 2)), ((0, 1), (1, 2, 3)), ((0, 1), (1,)),
                  ((0, 1), 1), ((0, 1), None), ((), ()), {(0, 1), (1, 2)}, {(0, 1): (1, 2)}, "((0, 1), (1, 2))"]
        for wrong in no_integers():
            values += [((0, wrong), (1, 2)), ((wrong, 1), (1, 2)), ((0, 1), (wrong, 2)), ((0, 1), (1, wrong)),
                       (wrong, (1, 2)), ((0, 1), wrong)]
        for rule in (TWICE, ROUND, Rule([1, 1], ("end",)), Rule([1], ("repeat", 1)), Rule([], ("end",))):
            for value in values:
                self.assertIs(is_repetition(rule, value), False)

    def test_arguments_are_unchanged(self):
        value = [(0, 1), (1, 2)]
        self.assertIs(is_repetition(TWICE, value), False)
        self.assertEqual(value, [(0, 1), (1, 2)])


if __name__ == "__main__":
    unittest.main()
