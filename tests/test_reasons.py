"""Points 25 to 27: the reasons of attempts, the history of a client, and how often it fails for each reason."""

import unittest

from retryslots import reasons
from retryslots.errors import InvalidAttempt, InvalidBound, InvalidClient, InvalidScene, LimitExceeded
from retryslots.reasons import failure_counts, history, reason
from retryslots.rules import Rule
from retryslots.runs import Run
from retryslots.scenes import Scene
from tests.changes import FAR, changed_scenes
from tests.samples import check_fields, document_scene, no_clients, no_integers, no_runs
from tests.slot_by_slot import Parts, Stepped, small_scenes

FUNCTIONS = ["reason", "history", "failure_counts", "closed_set", "is_closed"]
EVEN = Rule([2], ("repeat", 1))
DOUBLED = Rule([1], ("times", 2))
ALONE = Rule([], ("end",))


def document_run():
    return Run(document_scene())


def document_loop():
    return Run(Scene(EVEN, [0, 2, 4, 101], outages=[(0, 5)]))


def stepped_reasons(stepped, client):
    """Return the reasons of the attempts that a client makes up to the last slot that was stepped through."""
    found = []
    for slot in range(stepped.first, stepped.last + 1):
        event = stepped.events[slot]
        if event[0] == "served" and event[1] == client and slot == stepped.served[client][1]:
            found.append(("served",))
        elif event[0] in ("outage", "busy") and client in event[2] and slot >= stepped.parts.starts[client]:
            found.append(event[:2])
        elif event[0] == "met" and client in event[1]:
            found.append(("met", [other for other in event[1] if other != client]))
    return found


def grouped(parts, client, found, first, after):
    """Return the history of a range of attempts with these reasons, as the document states it."""
    entries = []
    rule = Rule(parts.gaps, parts.tail)
    for attempt in range(first, min(after, len(found))):
        if entries and entries[-1][2] == found[attempt] and found[attempt][0] in ("outage", "busy"):
            slots = [parts.starts[client] + rule.offset(one) for one in (attempt - 1, attempt)]
            between = [outage for outage in parts.outages if slots[0] < outage[0] and outage[1] <= slots[1]]
            if found[attempt][0] == "outage" or not between:
                entries[-1] = (entries[-1][0], attempt + 1, found[attempt])
                continue
        entries.append((attempt, attempt + 1, found[attempt]))
    return entries


def counted(found, first, after):
    """Return how many of a range of reasons are failures of each kind."""
    words = [why[0] for why in found[first:after]]
    return words.count("outage"), words.count("busy"), words.count("met")


class Interface(unittest.TestCase):
    def test_functions_are_defined_in_the_file(self):
        for name in FUNCTIONS:
            self.assertEqual(getattr(reasons, name).__module__, "retryslots.reasons")

    def test_arguments_by_name(self):
        run = document_run()
        self.assertEqual(reason(attempt=1, client=0, run=run), ("busy", 1))
        self.assertEqual(history(after=1, first=0, client=0, run=run), [(0, 1, ("met", [1]))])
        self.assertEqual(failure_counts(after=3, first=0, client=0, run=run), (0, 1, 1))


class SlotBySlot(unittest.TestCase):
    def test_small_scenes(self):
        for parts in small_scenes(500, 31):
            stepped, run = Stepped(parts), Run(parts.scene())
            for client in range(len(parts.starts)):
                found = stepped_reasons(stepped, client)
                for attempt, why in enumerate(found):
                    self.assertEqual(reason(run, client, attempt), why, (parts, client, attempt))
                many = min(len(found), 25)
                for first in range(many + 1):
                    for after in sorted({first, min(first + 1, many), min(first + 3, many), many}):
                        self.assertEqual(history(run, client, first, after),
                                         grouped(parts, client, found, first, after), (parts, client, first, after))
                        self.assertEqual(failure_counts(run, client, first, after), counted(found, first, after))

    def test_outages_within_services(self):
        found = []
        for gap in (1, 2, 3):
            for length in (9, 14):
                for outages in ([(3, 5)], [(3, 4), (4, 6)], [(1, 2), (4, 5), (7, 8)], [(5, 20)], [(2, 9), (11, 12)]):
                    parts = Parts([gap], ("repeat", 1), [0, 1, 1, -2], outages, length)
                    stepped, run = Stepped(parts), Run(parts.scene())
                    for client in range(4):
                        whole = stepped_reasons(stepped, client)[:20]
                        expected = grouped(parts, client, whole, 0, len(whole))
                        self.assertEqual(history(run, client, 0, len(whole)), expected)
                        found += [(one[2], other[2]) for one, other in zip(expected, expected[1:])]
        # An outage without an attempt divides the attempts of a service.
        self.assertTrue([pair for pair in found if pair[0] == pair[1] and pair[0][0] == "busy"])

    def test_behind_the_service_and_the_end(self):
        for parts in small_scenes(200, 32):
            run = Run(parts.scene())
            for client, outcome in enumerate(run.outcomes()):
                if outcome[0] == "served":
                    last = outcome[1]
                    self.assertEqual(reason(run, client, last), ("served",))
                    self.assertEqual(history(run, client, last, last + 5), [(last, last + 1, ("served",))])
                    self.assertEqual(failure_counts(run, client, last, FAR), (0, 0, 0))
                    if parts.tail[0] != "end":
                        self.assertIsNone(reason(run, client, last + 1))
                        self.assertIsNone(reason(run, client, last + 7))
                elif outcome[0] == "ended":
                    last = len(parts.gaps)
                else:
                    continue
                self.assertEqual(history(run, client, last + 1, last + 9), [])
                self.assertEqual(history(run, client, FAR, 2 * FAR), [])
                self.assertEqual(history(run, client, 0, FAR), history(run, client, 0, last + 1))
                self.assertEqual(failure_counts(run, client, last + 1, FAR), (0, 0, 0))
                self.assertEqual(failure_counts(run, client, 0, FAR), failure_counts(run, client, 0, last + 1))


class Reasons(unittest.TestCase):
    def test_document(self):
        run = document_run()
        found = [reason(run, 0, 0), reason(run, 0, 1), reason(run, 1, 0), reason(run, 1, 2)]
        self.assertEqual(found, [("met", [1]), ("busy", 1), ("outage", 0), ("served",)])
        self.assertIsNone(reason(document_loop(), 3, 1))

    def test_first_reason_that_applies(self):
        # Slot 3 lies in the outage and in the service of client 0, and both others make an attempt in it.
        run = Run(Scene(EVEN, [0, 1, 3], outages=[(3, 4)], length=4))
        self.assertEqual((reason(run, 1, 1), reason(run, 2, 0)), (("outage", 0), ("outage", 0)))
        run = Run(Scene(EVEN, [0, 1, 3], length=4))
        self.assertEqual((reason(run, 1, 1), reason(run, 2, 0)), (("busy", 0), ("busy", 0)))
        run = Run(Scene(EVEN, [0, 1, 3], length=3))
        self.assertEqual((reason(run, 1, 1), reason(run, 2, 0)), (("met", [2]), ("met", [1])))

    def test_others_ascend(self):
        run = Run(Scene(ALONE, [5, 9, 5, 5, 9, 5]))
        self.assertEqual(reason(run, 2, 0), ("met", [0, 3, 5]))
        self.assertEqual(reason(run, 4, 0), ("met", [1]))

    def test_thirty_digits(self):
        run = Run(Scene(EVEN, [-FAR, FAR, FAR], outages=[(-FAR, FAR)], length=10 ** 25))
        self.assertEqual(reason(run, 0, FAR - 1), ("outage", 0))
        self.assertEqual(reason(run, 0, FAR), ("met", [1, 2]))
        self.assertEqual(reason(run, 1, 10 ** 25), ("met", [0, 2]))
        run = Run(Scene(Rule([3], ("repeat", 1)), [-FAR, FAR, FAR + 1], outages=[(-FAR, FAR)], length=10 ** 25))
        self.assertEqual((reason(run, 1, 0), reason(run, 2, 0)), (("served",), ("busy", 1)))
        self.assertEqual(reason(run, 0, (2 * FAR + 1) // 3), ("busy", 1))
        self.assertEqual(reason(run, 2, 10 ** 25), ("met", [0]))

    def test_no_limit_for_a_period(self):
        run = Run(Scene(Rule([4, 1, 2], ("repeat", 2)), [0, 0]))
        for attempt in (1000, 1001, 10 ** 25, FAR):
            self.assertEqual(reason(run, 0, attempt), ("met", [1]))


class Errors(unittest.TestCase):
    def test_runs(self):
        for value in no_runs():
            check_fields(self, InvalidScene("run", -1), reason, value, "client", "attempt")
            for call in (history, failure_counts):
                check_fields(self, InvalidScene("run", -1), call, value, None, [], {})

    def test_clients(self):
        for run, many in ((document_run(), 2), (document_loop(), 4)):
            for client in no_clients(many):
                check_fields(self, InvalidClient(client), reason, run, client, "attempt")
                for call in (history, failure_counts):
                    check_fields(self, InvalidClient(client), call, run, client, [], {})

    def test_attempts(self):
        for run in (document_run(), document_loop(), Run(Scene(DOUBLED, [0, 0]))):
            for attempt in [*no_integers(), -1, -FAR]:
                check_fields(self, InvalidAttempt(attempt), reason, run, 0, attempt)
        for attempt in (3, 4, 1001, FAR):
            check_fields(self, InvalidAttempt(attempt), reason, document_run(), 1, attempt)
        check_fields(self, InvalidAttempt(1), reason, Run(Scene(ALONE, [0])), 0, 1)

    def test_attempts_above_the_limit(self):
        for starts in ([0, 0], [0]):
            run = Run(Scene(DOUBLED, starts))
            for attempt in (1001, FAR):
                check_fields(self, LimitExceeded(1000), reason, run, 0, attempt)
        self.assertIsNone(reason(Run(Scene(DOUBLED, [0])), 0, 1000))
        self.assertEqual(reason(Run(Scene(DOUBLED, [0, 0])), 0, 1000), ("met", [1]))

    def test_bounds(self):
        for run in (document_run(), document_loop(), Run(Scene(DOUBLED, [0, 0, 0]))):
            for call in (history, failure_counts):
                for wrong in [*no_integers(), -1, -FAR]:
                    check_fields(self, InvalidBound("first"), call, run, 0, wrong, wrong)
                    check_fields(self, InvalidBound("first"), call, run, 0, wrong, 5)
                    check_fields(self, InvalidBound("after"), call, run, 0, 0, wrong)
                for first, after in ((1, 0), (5, 4), (FAR, FAR - 1), (2000, 1999)):
                    check_fields(self, InvalidBound("after"), call, run, 0, first, after)


class Histories(unittest.TestCase):
    def test_document(self):
        self.assertEqual(history(document_loop(), 0, 0, 5),
                         [(0, 3, ("outage", 0)), (3, 4, ("met", [1, 2])), (4, 5, ("met", [1, 2]))])
        self.assertEqual(history(document_run(), 0, 0, 9),
                         [(0, 1, ("met", [1])), (1, 2, ("busy", 1)), (2, 3, ("served",))])

    def test_empty_ranges(self):
        for run in (document_run(), document_loop(), Run(Scene(DOUBLED, [0, 0]))):
            for first in (0, 1, 3, 1000, 1001, FAR):
                self.assertEqual(history(run, 0, first, first), [])
                self.assertEqual(failure_counts(run, 0, first, first), (0, 0, 0))

    def test_touching_outages_are_two_entries(self):
        run = Run(Scene(EVEN, [0, 0], outages=[(0, 4), (4, 8), (8, 9)]))
        self.assertEqual(history(run, 1, 0, 6), [(0, 2, ("outage", 0)), (2, 4, ("outage", 1)), (4, 5, ("outage", 2)),
                                                 (5, 6, ("met", [0]))])

    def test_services_are_two_entries(self):
        # Client 2 makes attempts in the slots 1, 2, 4, 5 and 10, and the others are served in the slots 0 and 3.
        run = Run(Scene(Rule([1, 2, 1, 5], ("end",)), [0, 3, 1], length=3))
        self.assertEqual(run.order(), [(0, 0), (3, 1), (10, 2)])
        self.assertEqual(history(run, 2, 0, 9), [(0, 2, ("busy", 0)), (2, 4, ("busy", 1)), (4, 5, ("served",))])

    def test_an_outage_within_a_service(self):
        # The service of client 0 has the slots 0 to 20, the outage 6 and 7. No attempt of client 1 lies in it.
        run = Run(Scene(Rule([3], ("repeat", 1)), [0, 2], outages=[(6, 8)], length=21))
        self.assertEqual(history(run, 1, 0, 9), [(0, 2, ("busy", 0)), (2, 7, ("busy", 0)), (7, 8, ("served",))])
        run = Run(Scene(Rule([3], ("repeat", 1)), [0, 2], outages=[(5, 8)], length=21))
        self.assertEqual(history(run, 1, 0, 9), [(0, 1, ("busy", 0)), (1, 2, ("outage", 0)), (2, 7, ("busy", 0)),
                                                 (7, 8, ("served",))])
        run = Run(Scene(Rule([3], ("repeat", 1)), [0, 2], length=21))
        self.assertEqual(history(run, 1, 0, 9), [(0, 7, ("busy", 0)), (7, 8, ("served",))])

    def test_parts_of_a_range(self):
        run = document_loop()
        self.assertEqual(history(run, 0, 1, 2), [(1, 2, ("outage", 0))])
        self.assertEqual(history(run, 0, 2, 4), [(2, 3, ("outage", 0)), (3, 4, ("met", [1, 2]))])

    def test_a_thousand_entries_and_more(self):
        run = Run(Scene(EVEN, [0, 0]))
        entries = history(run, 0, 0, 1000)
        self.assertEqual(entries, [(at, at + 1, ("met", [1])) for at in range(1000)])
        self.assertEqual(len(history(run, 0, FAR, FAR + 1000)), 1000)
        for first, after in ((0, 1001), (FAR, FAR + 1001), (0, 10 ** 25)):
            check_fields(self, LimitExceeded(1000), history, run, 0, first, after)
        # The outage is one entry more.
        run = Run(Scene(EVEN, [0, 0], outages=[(0, 10 ** 25)]))
        many = 5 * 10 ** 24
        self.assertEqual(len(history(run, 0, 0, many + 999)), 1000)
        check_fields(self, LimitExceeded(1000), history, run, 0, 0, many + 1000)
        self.assertEqual(history(run, 1, 7, many), [(7, many, ("outage", 0))])

    def test_growing_gaps_above_the_limit(self):
        run = Run(Scene(DOUBLED, [0, 0]))
        self.assertEqual(history(run, 0, 1000, 1001), [(1000, 1001, ("met", [1]))])
        self.assertEqual(len(history(run, 0, 1, 1001)), 1000)
        for first, after in ((0, 1001), (1000, 1002), (1001, 1002), (FAR, FAR + 1), (0, FAR)):
            check_fields(self, LimitExceeded(1000), history, run, 0, first, after)
        # The outage makes it less than a thousand entries, but attempt 1001 is made.
        run = Run(Scene(DOUBLED, [0, 0], outages=[(0, FAR)]))
        self.assertEqual(len(history(run, 0, 0, 1001)), 905)
        check_fields(self, LimitExceeded(1000), history, run, 0, 0, 1002)
        # All of the attempts are one entry, but attempt 1001 is made.
        run = Run(Scene(DOUBLED, [0, 0], outages=[(0, 2 ** 1001)]))
        self.assertEqual(history(run, 0, 0, 1001), [(0, 1001, ("outage", 0))])
        self.assertEqual(failure_counts(run, 0, 0, 1003), (1002, 0, 1))
        check_fields(self, LimitExceeded(1000), history, run, 0, 0, 1002)
        check_fields(self, LimitExceeded(1000), history, run, 0, 1001, 1002)
        # A client that is served does not make it.
        run = Run(Scene(DOUBLED, [0, 0, 1], outages=[(0, FAR)]))
        self.assertEqual(history(run, 2, 0, FAR), [(0, 97, ("outage", 0)), (97, 98, ("served",))])
        self.assertEqual(history(run, 2, 1001, FAR), [])

    def test_greatest_scenes(self):
        run = Run(Scene(Rule([10 ** 12, 1], ("times", 1000)), [at % 20 for at in range(40)]))
        self.assertEqual(len(history(run, 3, 1, 1001)), 1000)
        run = Run(Scene(Rule([10 ** 12 - at for at in range(20)], ("repeat", 20)), [7] * 40))
        self.assertEqual(len(history(run, 3, FAR, FAR + 1000)), 1000)


class Counts(unittest.TestCase):
    def test_document(self):
        self.assertEqual(failure_counts(document_run(), 0, 0, 3), (0, 1, 1))
        self.assertEqual(failure_counts(document_loop(), 0, 0, 10 ** 20), (3, 0, 10 ** 20 - 3))

    def test_no_limit(self):
        run = Run(Scene(DOUBLED, [0, 0], outages=[(0, FAR)]))
        self.assertEqual(failure_counts(run, 0, 0, 10 ** 25), (97, 0, 10 ** 25 - 97))
        self.assertEqual(failure_counts(run, 0, 1001, 1001 + 10 ** 25), (0, 0, 10 ** 25))
        self.assertEqual(failure_counts(Run(Scene(EVEN, [0, 0])), 0, 0, 1001), (0, 0, 1001))

    def test_outages_and_services_of_many_slots(self):
        many = 10 ** 25
        run = Run(Scene(Rule([1], ("repeat", 1)), [-1, 0, 0], outages=[(many, 3 * many), (3 * many, 4 * many)],
                        length=2 * many))
        self.assertEqual(run.order(), [(-1, 0)])
        self.assertEqual(failure_counts(run, 1, 0, many), (0, many, 0))
        self.assertEqual(failure_counts(run, 1, 0, 5 * many), (3 * many, many, many))
        self.assertEqual(history(run, 1, 5, 4 * many + 1), [
            (5, many, ("busy", 0)), (many, 3 * many, ("outage", 0)), (3 * many, 4 * many, ("outage", 1)),
            (4 * many, 4 * many + 1, ("met", [2]))])
        run = Run(Scene(Rule([1], ("repeat", 1)), [0, 1], length=many))
        self.assertEqual(history(run, 1, 0, FAR), [(0, many - 1, ("busy", 0)), (many - 1, many, ("served",))])
        self.assertEqual(failure_counts(run, 1, 0, FAR), (0, many - 1, 0))

    def test_clients_that_fail_for_ever(self):
        checked = 0
        for parts in small_scenes(300, 33):
            run = Run(parts.scene())
            many = 3 * sum(parts.gaps) + 200
            for client, outcome in enumerate(run.outcomes()):
                if outcome == ("never",) and parts.tail[0] == "repeat":
                    before = failure_counts(run, client, 0, many)
                    behind = failure_counts(run, client, 0, many + 10 ** 25)
                    self.assertEqual(behind, (before[0], before[1], before[2] + 10 ** 25))
                    self.assertEqual(failure_counts(run, client, many, many + 10 ** 25), (0, 0, 10 ** 25))
                    checked += 1
        self.assertGreater(checked, 30)

    def test_counts_are_those_of_the_history(self):
        for parts in small_scenes(200, 34):
            run = Run(parts.scene())
            for client in range(len(parts.starts)):
                counts = {"outage": 0, "busy": 0, "met": 0, "served": 0}
                for first, after, why in history(run, client, 1, 30):
                    counts[why[0]] += after - first
                self.assertEqual(failure_counts(run, client, 1, 30), (counts["outage"], counts["busy"], counts["met"]))


class Changed(unittest.TestCase):
    def test_moved_and_multiplied_scenes(self):
        for parts in small_scenes(150, 35):
            run = Run(parts.scene())
            for scene in changed_scenes(parts):
                other = Run(scene)
                for client in range(len(parts.starts)):
                    self.assertEqual(history(other, client, 0, 40), history(run, client, 0, 40), parts)
                    self.assertEqual(failure_counts(other, client, 2, FAR), failure_counts(run, client, 2, FAR), parts)
                    for attempt in range(len(parts.gaps) + 1):
                        self.assertEqual(reason(other, client, attempt), reason(run, client, attempt))


class Copies(unittest.TestCase):
    def test_lists_that_were_returned(self):
        run = document_run()
        for _ in range(2):
            why = reason(run, 0, 0)
            self.assertEqual(why, ("met", [1]))
            why[1].append(7)
            entries = history(run, 0, 0, 9)
            self.assertEqual(entries, [(0, 1, ("met", [1])), (1, 2, ("busy", 1)), (2, 3, ("served",))])
            entries[0][2][1].clear()
            entries.clear()
        self.assertEqual(run.event(0), ("met", [0, 1]))
        self.assertEqual((run.scene(), run.order()), (document_scene(), [(3, 1), (8, 0)]))


if __name__ == "__main__":
    unittest.main()
