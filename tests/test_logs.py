"""Points 36 to 38: the logs of an outage, the starts in it, and sums and differences of logs."""

import random
import unittest
from itertools import product

from retryslots import logs
from retryslots.errors import InvalidBound, InvalidLog, InvalidScene, LimitExceeded
from retryslots.logs import explanations, expected_log, infer_starts, is_explanation, joined_logs, remaining_log
from retryslots.rules import Rule
from tests.changes import FAR
from tests.samples import check_fields, endless_list, no_integers
from tests.stepped_logs import changed_log, small_windows, stepped_inference, stepped_log

FUNCTIONS = ["expected_log", "infer_starts", "remaining_log", "joined_logs", "is_explanation", "explanations"]
END = Rule([5, 3], ("end",))
EACH = Rule([1], ("repeat", 1))
EVEN = Rule([2], ("repeat", 1))
DOUBLED = Rule([1], ("times", 2))
ALONE = Rule([], ("end",))


def no_windows():
    """Return objects that are not windows."""
    values = [*no_integers(), 0, (0,), (0, 1, 2), [0, 1], (0, 0), (1, 0), (FAR, -FAR), ((0, 1),), {0: 1}, "01"]
    values += [(wrong, 5) for wrong in no_integers()] + [(0, wrong) for wrong in no_integers()]
    return values


def no_logs():
    """Return objects that are not logs as a whole."""
    kinds = [value for value in no_integers() if not isinstance(value, list)]
    return [*kinds, 0, ((0, 1),), {0: 1}, range(2), [(0, 1)] * 501, [None] * 501, [(at, 1) for at in range(501)]]


def no_entries():
    """Return objects that are not entries of a log of the window from 0 to 9 behind its slot 4."""
    values = [*no_integers(), 5, [5, 1], (5,), (5, 1, 1), (5, 0), (5, -1), (4, 1), (3, 1), (-1, 1), (10, 1), (FAR, 1),
              {5: 1}, "51", ((5, 1),)]
    values += [(wrong, 1) for wrong in no_integers()] + [(5, wrong) for wrong in no_integers()]
    return values


class Interface(unittest.TestCase):
    def test_functions_are_defined_in_the_file(self):
        for name in FUNCTIONS:
            self.assertEqual(getattr(logs, name).__module__, "retryslots.logs")

    def test_arguments_by_name(self):
        self.assertEqual(expected_log(starts=[0], window=(0, 9), rule=END), [(0, 1), (5, 1), (8, 1)])
        self.assertEqual(infer_starts(log=[], window=(0, 9), rule=END), ("starts", []))
        self.assertEqual(remaining_log(starts=[], log=[(1, 1)], window=(0, 9), rule=END), ("log", [(1, 1)]))
        self.assertEqual(joined_logs(other=[], one=[(1, 1)], window=(0, 9)), [(1, 1)])
        self.assertIs(is_explanation(value=[], log=[], window=(0, 9), rule=END), True)
        self.assertEqual(explanations(most=1, earliest=0, log=[], window=(0, 9), rule=END), [[]])


class Expected(unittest.TestCase):
    def test_document(self):
        self.assertEqual(expected_log(END, (0, 10), [2, 0, 0, -3]), [(0, 2), (2, 2), (5, 3), (7, 1), (8, 2)])

    def test_small_windows(self):
        for gaps, tail, window, starts in small_windows(1500, 61):
            self.assertEqual(expected_log(Rule(gaps, tail), window, starts), stepped_log(gaps, tail, window, starts))

    def test_first_and_last_slots(self):
        for start, expected in ((-9, []), (-8, [(0, 1)]), (9, [(9, 1)]), (10, []), (-4, [(1, 1), (4, 1)]),
                                (-FAR, []), (FAR, [])):
            self.assertEqual(expected_log(END, (0, 10), [start]), expected)

    def test_numbers_of_starts(self):
        self.assertEqual(expected_log(END, (0, 10), []), [])
        self.assertEqual(expected_log(END, (0, 10), [3] * 40), [(3, 40), (8, 40)])
        self.assertEqual(expected_log(ALONE, (0, 100), list(range(39, -1, -1))), [(at, 1) for at in range(40)])

    def test_five_hundred_slots_and_more(self):
        self.assertEqual(expected_log(EACH, (0, 500), [0]), [(at, 1) for at in range(500)])
        self.assertEqual(expected_log(EACH, (0, 500), [-FAR] * 40), [(at, 40) for at in range(500)])
        self.assertEqual(len(expected_log(EACH, (0, FAR), [FAR - 500])), 500)
        check_fields(self, LimitExceeded(500), expected_log, EACH, (0, 501), [0])
        check_fields(self, LimitExceeded(500), expected_log, EACH, (0, FAR), [0])
        check_fields(self, LimitExceeded(500), expected_log, EACH, (0, FAR), [FAR - 501])
        self.assertEqual(len(expected_log(EVEN, (0, 1000), [0])), 500)
        self.assertEqual(len(expected_log(EVEN, (0, 500), [0, 1])), 500)
        check_fields(self, LimitExceeded(500), expected_log, EVEN, (0, 501), [0, 1])
        check_fields(self, LimitExceeded(500), expected_log, EVEN, (0, 1001), [0])

    def test_long_windows(self):
        self.assertEqual(expected_log(DOUBLED, (10 ** 20, 10 ** 21), [0]), [(2 ** at - 1, 1) for at in (67, 68, 69)])
        # Each start has 98 attempts in this window, and they share one slot.
        self.assertEqual(len(expected_log(DOUBLED, (-FAR, FAR), [-FAR, -FAR, 1 - FAR])), 98 + 98 - 1)
        rule = Rule([10 ** 12], ("repeat", 1))
        self.assertEqual(expected_log(rule, (10 ** 20 - 1, 10 ** 20 + 10 ** 12 + 1), [0, 7]),
                         [(10 ** 20, 1), (10 ** 20 + 7, 1), (10 ** 20 + 10 ** 12, 1)])
        self.assertEqual(expected_log(EVEN, (-FAR, 5 - FAR), [-3 * FAR]), [(-FAR, 1), (2 - FAR, 1), (4 - FAR, 1)])

    def test_growing_gaps_far_away(self):
        rule = Rule([1, 1], ("times", 1000))
        last = rule.offset(1000)
        self.assertEqual(expected_log(rule, (last - 1, last + 1), [0]), [(last, 1)])
        self.assertEqual(len(expected_log(DOUBLED, (0, DOUBLED.offset(499) + 1), [0])), 500)
        check_fields(self, LimitExceeded(500), expected_log, DOUBLED, (0, DOUBLED.offset(500) + 1), [0])
        check_fields(self, LimitExceeded(500), expected_log, DOUBLED, (0, DOUBLED.offset(1000) + 1), [0])

    def test_starts_are_unchanged(self):
        starts = [2, 0]
        expected_log(END, (0, 10), starts).clear()
        self.assertEqual(starts, [2, 0])


class Inferred(unittest.TestCase):
    def test_document(self):
        self.assertEqual(infer_starts(END, (0, 10), [(0, 2), (2, 1), (5, 2), (7, 1), (8, 2)]),
                         ("starts", [(0, 2), (2, 1)]))
        self.assertEqual(infer_starts(END, (0, 10), [(0, 1), (4, 1)]), ("clash", 5, 1, 0))

    def test_small_windows(self):
        chance = random.Random(62)
        kinds = {"starts": 0, "clash": 0}
        for gaps, tail, window, starts in small_windows(2500, 63):
            inside = [start for start in starts if window[0] <= start < window[1]]
            for log in (stepped_log(gaps, tail, window, inside),
                        changed_log(stepped_log(gaps, tail, window, inside), window, chance)):
                expected = stepped_inference(gaps, tail, window, log)
                self.assertEqual(infer_starts(Rule(gaps, tail), window, log), expected, (gaps, tail, window, log))
                kinds[expected[0]] += 1
        self.assertGreater(min(kinds.values()), 500)

    def test_all_small_logs(self):
        for gaps, tail in (([1], ("repeat", 1)), ([1, 2], ("repeat", 2)), ([2, 1], ("end",)), ([1], ("times", 2))):
            for counts in product(range(3), repeat=5):
                log = [(slot, count) for slot, count in enumerate(counts) if count > 0]
                self.assertEqual(infer_starts(Rule(gaps, tail), (0, 5), log),
                                 stepped_inference(gaps, tail, (0, 5), log))

    def test_least_clash(self):
        # Slot 5 has no entry, and slot 7 has too few attempts.
        self.assertEqual(infer_starts(END, (0, 20), [(0, 1), (2, 3), (7, 1)]), ("clash", 5, 1, 0))
        self.assertEqual(infer_starts(END, (0, 20), [(0, 1), (2, 3), (5, 1), (7, 1)]), ("clash", 7, 3, 1))
        # The clash of a later start comes first, and both starts make attempts in it.
        rule = Rule([10, 1], ("end",))
        self.assertEqual(infer_starts(rule, (0, 30), [(0, 2), (1, 3), (10, 2)]), ("clash", 11, 5, 0))
        self.assertEqual(infer_starts(rule, (0, 30), [(0, 2), (1, 3), (10, 2), (11, 4)]), ("clash", 11, 5, 4))
        self.assertEqual(infer_starts(rule, (0, 30), [(0, 2), (1, 3), (10, 2), (11, 5)]), ("clash", 12, 3, 0))

    def test_behind_the_last_entry(self):
        self.assertEqual(infer_starts(END, (0, 6), [(0, 1)]), ("clash", 5, 1, 0))
        self.assertEqual(infer_starts(END, (0, 5), [(0, 1)]), ("starts", [(0, 1)]))
        self.assertEqual(infer_starts(EACH, (0, FAR), [(5, 2)]), ("clash", 6, 2, 0))
        self.assertEqual(infer_starts(EACH, (0, FAR), [(FAR - 1, 2)]), ("starts", [(FAR - 1, 2)]))

    def test_empty_log(self):
        self.assertEqual(infer_starts(EACH, (0, FAR), []), ("starts", []))

    def test_numbers_of_clients(self):
        self.assertEqual(infer_starts(ALONE, (0, 9), [(0, FAR), (4, 10 ** 30 - 1)]),
                         ("starts", [(0, FAR), (4, 10 ** 30 - 1)]))
        self.assertEqual(infer_starts(EACH, (0, 500), [(at, at + 1) for at in range(500)]),
                         ("starts", [(at, 1) for at in range(500)]))
        self.assertEqual(infer_starts(EACH, (0, 501), [(at, at + 1) for at in range(500)]), ("clash", 500, 500, 0))
        self.assertEqual(infer_starts(ALONE, (0, 500), [(at, 7) for at in range(500)]),
                         ("starts", [(at, 7) for at in range(500)]))

    def test_growing_gaps_in_a_long_window(self):
        slots = [2 ** at - 1 - FAR for at in range(98)]
        self.assertEqual(infer_starts(DOUBLED, (-FAR, FAR), [(slot, 3) for slot in slots]), ("starts", [(-FAR, 3)]))
        self.assertEqual(infer_starts(DOUBLED, (-FAR, FAR), [(slot, 3) for slot in slots[:90]]),
                         ("clash", slots[90], 3, 0))


class Remaining(unittest.TestCase):
    def test_document(self):
        log = [(0, 2), (2, 2), (5, 3), (7, 1), (8, 2)]
        self.assertEqual(remaining_log(END, (0, 10), log, [-3]), ("log", [(0, 2), (2, 1), (5, 2), (7, 1), (8, 2)]))
        self.assertEqual(log, [(0, 2), (2, 2), (5, 3), (7, 1), (8, 2)])

    def test_small_windows(self):
        chance = random.Random(64)
        kinds = {"log": 0, "clash": 0}
        for gaps, tail, window, starts in small_windows(1500, 65):
            log = stepped_log(gaps, tail, window, starts)
            if chance.randint(0, 1):
                log = changed_log(log, window, chance)
            taken = [*starts[:chance.randint(0, len(starts))], *starts[:chance.randint(0, 1)]]
            caused = dict(stepped_log(gaps, tail, window, taken))
            recorded = dict(log)
            expected = ("log", [(slot, count - caused.get(slot, 0)) for slot, count in log
                                if count > caused.get(slot, 0)])
            for slot in range(window[1] - 1, window[0] - 1, -1):
                if recorded.get(slot, 0) < caused.get(slot, 0):
                    expected = ("clash", slot, caused[slot], recorded.get(slot, 0))
            self.assertEqual(remaining_log(Rule(gaps, tail), window, log, taken), expected)
            kinds[expected[0]] += 1
        self.assertGreater(min(kinds.values()), 200)

    def test_nothing_remains(self):
        self.assertEqual(remaining_log(END, (0, 10), [(0, 40), (5, 40), (8, 40)], [0] * 40), ("log", []))
        self.assertEqual(remaining_log(END, (0, 10), [(0, 41), (5, 40), (8, 40)], [0] * 40), ("log", [(0, 1)]))
        self.assertEqual(remaining_log(END, (0, 10), [], []), ("log", []))
        self.assertEqual(remaining_log(END, (0, 10), [], [FAR, -FAR]), ("log", []))

    def test_too_many_slots(self):
        full = [(at, 1) for at in range(500)]
        self.assertEqual(remaining_log(EACH, (0, 500), full, [0]), ("log", []))
        for log in (full, [], [(at, 1) for at in range(1, 500)]):
            check_fields(self, LimitExceeded(500), remaining_log, EACH, (0, 501), log, [0])
            check_fields(self, LimitExceeded(500), remaining_log, EACH, (0, FAR), log, [0, 7])
        self.assertEqual(remaining_log(EACH, (0, 500), full[1:], [0]), ("clash", 0, 1, 0))

    def test_logs_fit_together(self):
        for gaps, tail, window, starts in small_windows(300, 66):
            rule = Rule(gaps, tail)
            whole = expected_log(rule, window, starts)
            for many in range(len(starts) + 1):
                rest = remaining_log(rule, window, whole, starts[:many])
                self.assertEqual(rest, ("log", expected_log(rule, window, starts[many:])))
                self.assertEqual(joined_logs(window, rest[1], expected_log(rule, window, starts[:many])), whole)


class Joined(unittest.TestCase):
    def test_document(self):
        self.assertEqual(joined_logs((0, 10), [(0, 1), (5, 1)], [(5, 2), (7, 1)]), [(0, 1), (5, 3), (7, 1)])

    def test_in_either_order(self):
        chance = random.Random(67)
        for _ in range(300):
            one, other = [changed_log([(at, chance.randint(1, 3)) for at in range(9) if chance.randint(0, 1)], (0, 9),
                                      chance) for _ in range(2)]
            expected = {}
            for slot, count in one + other:
                expected[slot] = expected.get(slot, 0) + count
            self.assertEqual(joined_logs((0, 9), one, other), sorted(expected.items()))
            self.assertEqual(joined_logs((0, 9), other, one), sorted(expected.items()))

    def test_five_hundred_entries_and_more(self):
        low, high = [(at, 1) for at in range(250)], [(at, 2) for at in range(250, 500)]
        self.assertEqual(joined_logs((0, FAR), high, low), low + high)
        self.assertEqual(len(joined_logs((0, FAR), low + high, low + high)), 500)
        check_fields(self, LimitExceeded(500), joined_logs, (0, FAR), high + [(500, 1)], low)
        check_fields(self, LimitExceeded(500), joined_logs, (0, FAR), low + high, [(FAR - 1, 1)])

    def test_long_numbers(self):
        self.assertEqual(joined_logs((-FAR, FAR), [(-FAR, FAR)], [(-FAR, FAR), (FAR - 1, 1)]),
                         [(-FAR, 2 * FAR), (FAR - 1, 1)])

    def test_logs_are_unchanged(self):
        one, other = [(0, 1)], [(0, 2)]
        joined_logs((0, 10), one, other).clear()
        joined_logs((0, 10), one, one).append(7)
        self.assertEqual((one, other, joined_logs((0, 10), one, other)), ([(0, 1)], [(0, 2)], [(0, 3)]))
        self.assertIsNot(joined_logs((0, 10), one, []), one)
        self.assertIsNot(remaining_log(END, (0, 10), one, [])[1], one)


class Errors(unittest.TestCase):
    """The errors of all functions of the stage that take a window, a log and starts, in their order."""

    def with_logs(self):
        """Return the calls that take a window and a log, where all further arguments may be wrong."""
        return [lambda window, log: infer_starts(END, window, log),
                lambda window, log: remaining_log(END, window, log, None),
                lambda window, log: joined_logs(window, log, None),
                lambda window, log: is_explanation(END, window, log, None),
                lambda window, log: explanations(END, window, log, None, None)]

    def test_windows(self):
        for wrong in no_windows():
            check_fields(self, InvalidBound("window"), expected_log, END, wrong, None)
            for call in self.with_logs():
                check_fields(self, InvalidBound("window"), call, wrong, None)

    def test_logs(self):
        for call in [*self.with_logs(), lambda window, log: joined_logs(window, [(0, 1)], log)]:
            for wrong in no_logs():
                check_fields(self, InvalidLog(-1), call, (0, FAR), wrong)
            for wrong in no_entries():
                check_fields(self, InvalidLog(1), call, (0, 10), [(4, 1), wrong])
                check_fields(self, InvalidLog(2), call, (0, 10), [(3, 1), (4, 2), wrong, None])
            check_fields(self, InvalidLog(0), call, (0, 10), [None, None])
            check_fields(self, InvalidLog(0), call, (0, 10), endless_list())
            check_fields(self, InvalidLog(499), call, (0, FAR), [(at, 1) for at in range(499)] + [(498, 1)])

    def test_five_hundred_entries(self):
        log = [(at, 1) for at in range(500)]
        self.assertEqual(infer_starts(ALONE, (0, 500), log), ("starts", log))
        self.assertEqual(remaining_log(ALONE, (0, 500), log, []), ("log", log))
        self.assertEqual(joined_logs((0, 500), log, []), log)
        self.assertIs(is_explanation(EACH, (0, 500), log, [0]), True)
        self.assertEqual(explanations(ALONE, (0, 500), log, 0, 3), [])

    def test_first_and_last_slots_of_the_window(self):
        for log in ([(0, 1)], [(9, 1)], [(0, 1), (9, FAR)]):
            self.assertEqual(joined_logs((0, 10), log, []), log)
        for log in ([(-1, 1)], [(10, 1)]):
            check_fields(self, InvalidLog(0), joined_logs, (0, 10), log, [])

    def test_first_log_is_checked_first(self):
        check_fields(self, InvalidLog(0), joined_logs, (0, 10), [None], [(0, 1), None])
        check_fields(self, InvalidLog(1), joined_logs, (0, 10), [(0, 1)], [(0, 1), None])

    def test_starts(self):
        calls = [lambda starts: expected_log(EACH, (0, FAR), starts),
                 lambda starts: remaining_log(EACH, (0, FAR), [(3, 1)], starts)]
        kinds = [value for value in no_integers() if not isinstance(value, list)]
        for call in calls:
            for wrong in [*kinds, 0, (0,), (0, 1), {0: 1}, range(2), [0] * 41, [None] * 41]:
                check_fields(self, InvalidScene("starts", -1), call, wrong)
            for wrong in no_integers():
                check_fields(self, InvalidScene("starts", 0), call, [wrong, wrong])
                check_fields(self, InvalidScene("starts", 2), call, [0, 0, wrong, 1])
                check_fields(self, InvalidScene("starts", 39), call, [0] * 39 + [wrong])

    def test_forty_starts(self):
        self.assertEqual(expected_log(ALONE, (0, 10), [7] * 40), [(7, 40)])
        self.assertEqual(remaining_log(ALONE, (0, 10), [(7, 41)], [7] * 40), ("log", [(7, 1)]))


if __name__ == "__main__":
    unittest.main()
