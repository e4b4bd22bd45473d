"""Points 41 to 45: short rules with distinct differences."""

import random
import unittest
from itertools import combinations, product

from retryslots import short
from retryslots.differences import is_spread
from retryslots.errors import InvalidBound, LimitExceeded
from retryslots.rules import Rule
from retryslots.short import extended, is_spread_list, next_gaps, shortest, spread_lists
from tests.changes import FAR
from tests.samples import check_fields, endless_list, no_integers

FUNCTIONS = ["is_spread_list", "next_gaps", "extended", "spread_lists", "shortest"]
# The least gaps one after another.
TWELVE = [1, 2, 4, 5, 8, 10, 14, 21, 15, 16, 26, 25]


def stepped_spread(gaps):
    """Tell whether no number is the difference of two pairs of offsets, by comparing all pairs."""
    pairs = list(combinations(range(len(gaps) + 1), 2))
    return not any(sum(gaps[one[0]:one[1]]) == sum(gaps[other[0]:other[1]]) for one, other in combinations(pairs, 2))


def stepped_lists(count, total):
    """Return the sorted list of all spread lists, by trying all lists with this total."""
    if count == 1:
        return [[]] if total == 0 else []
    firsts = product(range(1, total + 1), repeat=count - 2)
    lists = [[*first, total - sum(first)] for first in firsts if sum(first) < total]
    return [gaps for gaps in lists if stepped_spread(gaps)]


def no_gap_lists():
    """Return objects that are not gap lists."""
    values = [value for value in no_integers() if not isinstance(value, list) or value and value != [1]]
    values += [0, 1, (1, 2), {1: 2}, range(1, 3), endless_list(), [1] * 13, [10 ** at + 7 for at in range(13)]]
    for wrong in [*no_integers(), 0, -1, 10 ** 12 + 1, FAR]:
        values += [[wrong], [1, wrong], [1, 3, wrong, 7]]
    return values


def small_lists():
    """Return all lists of few small gaps."""
    return [list(gaps) for many in range(5) for gaps in product((1, 2, 3, 4, 5), repeat=many)]


class Interface(unittest.TestCase):
    def test_functions_are_defined_in_the_file(self):
        for name in FUNCTIONS:
            self.assertEqual(getattr(short, name).__module__, "retryslots.short")

    def test_arguments_by_name(self):
        self.assertIs(is_spread_list(gaps=[1, 2]), True)
        self.assertEqual(next_gaps(most=4, gaps=[1]), [2, 3, 4])
        self.assertEqual(extended(count=4, gaps=[]), [1, 2, 4, 5])
        self.assertEqual(spread_lists(total=3, count=3), [[1, 2], [2, 1]])
        self.assertEqual(shortest(count=4), (6, [[1, 3, 2], [2, 3, 1]]))


class IsSpreadList(unittest.TestCase):
    def test_document(self):
        self.assertEqual((is_spread_list([1, 2]), is_spread_list([1, 2, 1])), (True, False))

    def test_small_lists(self):
        for gaps in small_lists():
            self.assertIs(is_spread_list(gaps), stepped_spread(gaps), gaps)
            self.assertIs(is_spread_list(gaps), is_spread(Rule(gaps, ("end",))))

    def test_numbers_of_gaps(self):
        self.assertIs(is_spread_list([]), True)
        self.assertIs(is_spread_list(TWELVE), True)
        self.assertIs(is_spread_list([1] * 12), False)
        self.assertIs(is_spread_list([*TWELVE[:11], 24]), False)
        check_fields(self, InvalidBound("gaps"), is_spread_list, [*TWELVE, 1000])

    def test_long_gaps(self):
        self.assertIs(is_spread_list([10 ** 12]), True)
        self.assertIs(is_spread_list([10 ** 12 - 2 ** at for at in range(12)]), True)
        self.assertIs(is_spread_list([10 ** 12, 1, 10 ** 12 - 1]), False)

    def test_parts_and_reversed_lists(self):
        for first in range(12):
            for after in range(first, 13):
                self.assertIs(is_spread_list(TWELVE[first:after]), True)
                self.assertIs(is_spread_list(TWELVE[first:after][::-1]), True)

    def test_wrong_lists(self):
        for value in no_gap_lists():
            check_fields(self, InvalidBound("gaps"), is_spread_list, value)


class NextGaps(unittest.TestCase):
    def test_document(self):
        self.assertEqual((next_gaps([1], 4), next_gaps([1, 3], 5)), ([2, 3, 4], [2, 5]))

    def test_small_lists(self):
        for gaps in small_lists():
            if stepped_spread(gaps):
                for most in (1, 2, 12, 17):
                    self.assertEqual(next_gaps(gaps, most),
                                     [gap for gap in range(1, most + 1) if stepped_spread([*gaps, gap])])

    def test_greatest_gap(self):
        self.assertEqual(next_gaps([], 1), [1])
        self.assertEqual(next_gaps([], 2000), list(range(1, 2001)))
        self.assertEqual(next_gaps([1], 1), [])
        self.assertEqual(next_gaps([2000], 2000), list(range(1, 2000)))
        self.assertEqual(next_gaps([10 ** 12, 10 ** 12 - 1], 5), [2, 3, 4, 5])

    def test_eleven_gaps(self):
        found = next_gaps(TWELVE[:11], 2000)
        self.assertEqual(found, [gap for gap in range(1, 2001) if is_spread_list([*TWELVE[:11], gap])])
        self.assertEqual(found[0], 25)

    def test_errors_in_their_order(self):
        for value in no_gap_lists():
            check_fields(self, InvalidBound("gaps"), next_gaps, value, 5)
            check_fields(self, InvalidBound("gaps"), next_gaps, value, None)
        for gaps in ([1, 1], [1, 2, 1], [3, 1, 2], TWELVE, [1] * 12):
            for most in (5, None, 0):
                check_fields(self, InvalidBound("gaps"), next_gaps, gaps, most)
        for wrong in [*no_integers(), 0, -1, 2001, FAR]:
            check_fields(self, InvalidBound("most"), next_gaps, [1, 2], wrong)


class Extended(unittest.TestCase):
    def test_document(self):
        self.assertEqual(extended([], 4), [1, 2, 4, 5])

    def test_small_lists(self):
        for gaps in small_lists():
            if stepped_spread(gaps):
                expected = list(gaps)
                for _ in range(3):
                    expected.append(min(gap for gap in range(1, 60) if stepped_spread([*expected, gap])))
                for count in range(4):
                    self.assertEqual(extended(gaps, count), expected[:len(gaps) + count])

    def test_numbers_of_gaps(self):
        self.assertEqual(extended([], 0), [])
        self.assertEqual(extended([], 12), TWELVE)
        self.assertEqual(extended(TWELVE[:5], 7), TWELVE)
        self.assertEqual(extended(TWELVE, 0), TWELVE)
        self.assertEqual(extended([10 ** 12], 11)[1:], TWELVE[:11])

    def test_errors_in_their_order(self):
        for value in no_gap_lists():
            check_fields(self, InvalidBound("gaps"), extended, value, 1)
            check_fields(self, InvalidBound("gaps"), extended, value, None)
        for gaps in ([1, 1], [1, 2, 1], [1] * 12):
            for count in (0, 13, None):
                check_fields(self, InvalidBound("gaps"), extended, gaps, count)
        for wrong in [*no_integers(), -1, 13, FAR]:
            check_fields(self, InvalidBound("count"), extended, [1, 2], wrong)
            check_fields(self, InvalidBound("count"), extended, TWELVE, wrong)
        for gaps, count in ((TWELVE, 1), (TWELVE[:11], 2), ([1], 12), (TWELVE, 12)):
            check_fields(self, InvalidBound("gaps"), extended, gaps, count)


class SpreadLists(unittest.TestCase):
    def test_document(self):
        self.assertEqual(spread_lists(3, 3), [[1, 2], [2, 1]])

    def test_all_lists(self):
        for count, totals in ((1, (0, 1, 2, 60)), (2, (0, 1, 2, 59, 60)), (3, range(0, 61, 4)), (4, range(19)),
                              (5, (3, 9, 10, 11, 12, 15)), (6, (15, 16, 17)), (7, (5, 6, 12))):
            for total in totals:
                self.assertEqual(spread_lists(count, total), stepped_lists(count, total), (count, total))

    def test_two_thousand_lists_and_more(self):
        self.assertEqual(spread_lists(5, 30), stepped_lists(5, 30))
        self.assertEqual(len(spread_lists(5, 30)), 1880)
        for count, total in ((5, 31), (5, 60), (6, 28), (6, 60), (7, 33), (7, 60)):
            check_fields(self, LimitExceeded(2000), spread_lists, count, total)
        self.assertEqual((len(spread_lists(4, 60)), len(spread_lists(6, 27)), len(spread_lists(7, 32))),
                         (1570, 1722, 1310))
        self.assertGreater(len(stepped_lists(5, 31)), 2000)

    def test_greatest_searches(self):
        for total in (25, 28, 31, 32):
            found = spread_lists(7, total)
            self.assertEqual(found, sorted(found))
            for gaps in found:
                self.assertEqual((len(gaps), sum(gaps)), (6, total))
                self.assertIs(is_spread_list(gaps), True)
                self.assertIn(gaps[::-1], found)
        for total in range(25):
            self.assertEqual(spread_lists(7, total), [])

    def test_errors_in_their_order(self):
        for wrong in [*no_integers(), 0, -1, 8, FAR]:
            check_fields(self, InvalidBound("count"), spread_lists, wrong, 3)
            check_fields(self, InvalidBound("count"), spread_lists, wrong, None)
        for wrong in [*no_integers(), -1, 61, FAR]:
            check_fields(self, InvalidBound("total"), spread_lists, 1, wrong)
            check_fields(self, InvalidBound("total"), spread_lists, 7, wrong)


class Shortest(unittest.TestCase):
    def test_document(self):
        self.assertEqual(shortest(4), (6, [[1, 3, 2], [2, 3, 1]]))

    def test_all_counts(self):
        self.assertEqual([shortest(count)[0] for count in range(1, 8)], [0, 1, 3, 6, 11, 17, 25])
        for count in range(1, 8):
            total, lists = shortest(count)
            self.assertIs(shortest(count).__class__, tuple)
            self.assertEqual(lists, spread_lists(count, total))
            if total > 0:
                self.assertEqual(spread_lists(count, total - 1), [])
        self.assertEqual(shortest(1), (0, [[]]))
        self.assertEqual(shortest(5), (11, [[1, 3, 5, 2], [2, 5, 1, 3], [2, 5, 3, 1], [3, 1, 5, 2]]))

    def test_wrong_counts(self):
        for wrong in [*no_integers(), 0, -1, 8, FAR]:
            check_fields(self, InvalidBound("count"), shortest, wrong)


class Copies(unittest.TestCase):
    def test_lists_that_were_passed_in(self):
        gaps = [1, 3]
        self.assertIsNot(extended(gaps, 0), gaps)
        extended(gaps, 2).append(9)
        next_gaps(gaps, 5).clear()
        is_spread_list(gaps)
        self.assertEqual(gaps, [1, 3])

    def test_lists_that_were_returned(self):
        for call in (lambda: spread_lists(3, 3), lambda: shortest(3)[1]):
            for _ in range(2):
                found = call()
                self.assertEqual(found, [[1, 2], [2, 1]])
                found[0].append(5)
                found.clear()

    def test_in_any_order(self):
        chance = random.Random(81)
        calls = [(count, total) for count in range(1, 6) for total in range(12)]
        first = {call: spread_lists(*call) for call in calls}
        chance.shuffle(calls)
        self.assertEqual({call: spread_lists(*call) for call in calls}, first)


if __name__ == "__main__":
    unittest.main()
