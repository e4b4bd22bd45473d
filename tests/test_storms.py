"""Points 30 to 35: failures behind the outages and their bounds, and the effects of further clients."""

import random
import unittest

from retryslots import storms
from retryslots.errors import InvalidBound, InvalidClient, InvalidScene
from retryslots.rules import Rule
from retryslots.runs import Run
from retryslots.scenes import Scene
from retryslots.storms import (
    blocking_starts, failure_bounds, failures_behind, harming_starts, helping_starts, placements, settled_slot,
)
from tests.changes import FAR, changed_scenes, multiplied, shifted
from tests.samples import check_fields, document_scene, no_clients, no_integers, no_rules, no_runs, no_scenes
from tests.slot_by_slot import Parts, Stepped, small_scenes
from tests.stepping import small_rules, stepped_offsets

FUNCTIONS = ["settled_slot", "failures_behind", "failure_bounds", "blocking_starts", "placements", "helping_starts",
             "harming_starts"]
EVEN = Rule([2], ("repeat", 1))
DOUBLED = Rule([1], ("times", 2))
ALONE = Rule([], ("end",))
END = Rule([5, 3], ("end",))


def storm():
    """Return the scene of the document's examples of bounds."""
    return Scene(DOUBLED, [0, 2], outages=[(0, 4)], length=3)


def busy_pair():
    """Return the scene of the document's examples of further clients."""
    return Scene(ALONE, [0, 1], length=2)


def with_start(parts, start):
    """Return the parts of a scene with a further client."""
    return Parts(parts.gaps, parts.tail, [*parts.starts, start], parts.outages, parts.length)


class Interface(unittest.TestCase):
    def test_functions_are_defined_in_the_file(self):
        for name in FUNCTIONS:
            self.assertEqual(getattr(storms, name).__module__, "retryslots.storms")

    def test_arguments_by_name(self):
        self.assertEqual(settled_slot(scene=storm()), 4)
        self.assertEqual(failures_behind(client=0, run=Run(storm())), (1, 0))
        self.assertEqual(failure_bounds(scene=storm()), (None, 1))
        self.assertEqual(blocking_starts(count=2, low=-20, start=-1, rule=DOUBLED), [-3, -5])
        self.assertEqual(placements(high=0, low=0, scene=busy_pair()), [(0, ("ended",))])
        self.assertEqual(helping_starts(high=2, low=0, client=1, scene=busy_pair()), [0])
        self.assertEqual(harming_starts(high=2, low=0, client=0, scene=busy_pair()), [0])


class SettledSlots(unittest.TestCase):
    def test_outages(self):
        self.assertEqual(settled_slot(storm()), 4)
        self.assertEqual(settled_slot(Scene(END, [9], outages=[(-5, -3), (-3, 0), (2, 7)])), 7)
        self.assertEqual(settled_slot(Scene(END, [0], outages=[(-FAR, -FAR + 1)])), -FAR + 1)
        self.assertEqual(settled_slot(Scene(END, [0], outages=[(0, 10 ** 30 - 1)])), 10 ** 30 - 1)

    def test_no_outage(self):
        self.assertIsNone(settled_slot(Scene(END, [0])))
        self.assertIsNone(settled_slot(Scene(END, [0], outages=[])))

    def test_scenes(self):
        for value in no_scenes():
            check_fields(self, InvalidScene("scene", -1), settled_slot, value)


class FailuresBehind(unittest.TestCase):
    def test_small_scenes(self):
        for parts in small_scenes(600, 51):
            stepped, run = Stepped(parts), Run(parts.scene())
            settled = max([after for first, after in parts.outages], default=-FAR)
            for client, outcome in enumerate(stepped.outcomes()):
                expected = {"busy": 0, "met": 0}
                for slot in range(stepped.first, stepped.last + 1):
                    event = stepped.events[slot]
                    if slot >= settled and event[0] in expected and client in event[-1]:
                        expected[event[0]] += 1
                if outcome == ("never",):
                    self.assertIsNone(failures_behind(run, client))
                else:
                    self.assertEqual(failures_behind(run, client), (expected["busy"], expected["met"]), (parts, client))

    def test_document(self):
        run = Run(storm())
        self.assertEqual((failures_behind(run, 0), failures_behind(run, 1)), ((1, 0), (0, 0)))

    def test_no_outage(self):
        run = Run(document_scene())
        self.assertEqual((failures_behind(run, 0), failures_behind(run, 1)), ((1, 1), (0, 1)))
        run = Run(Scene(END, [0, -5], length=3))
        self.assertEqual((failures_behind(run, 0), failures_behind(run, 1)), ((0, 0), (0, 0)))
        run = Run(Scene(END, [-5, 0, 0], length=9))
        self.assertEqual([failures_behind(run, client) for client in range(3)], [(0, 0), (1, 2), (1, 2)])

    def test_served_before_the_outage(self):
        run = Run(Scene(EVEN, [0, 1, 9], outages=[(3, 5), (7, 8)], length=2))
        self.assertEqual([failures_behind(run, client) for client in range(3)], [(0, 0)] * 3)
        run = Run(Scene(END, [0, 0], outages=[(20, 30)]))
        self.assertEqual(failures_behind(run, 0), (0, 0))

    def test_never_served(self):
        for rule in (EVEN, DOUBLED):
            run = Run(Scene(rule, [3, 3, 50]))
            self.assertEqual([failures_behind(run, client) for client in range(3)], [None, None, (0, 0)])

    def test_moved_and_multiplied_scenes(self):
        for parts in small_scenes(100, 52):
            run = Run(parts.scene())
            for scene in changed_scenes(parts):
                other = Run(scene)
                for client in range(len(parts.starts)):
                    self.assertEqual(failures_behind(other, client), failures_behind(run, client))

    def test_many_slots(self):
        # Client 1 waits for the service of client 0, and all of its slots lie behind the outage.
        run = Run(Scene(Rule([1], ("repeat", 1)), [5, 6], outages=[(0, 5)], length=10 ** 25))
        self.assertEqual((failures_behind(run, 0), failures_behind(run, 1)), ((0, 0), (10 ** 25 - 1, 0)))

    def test_runs(self):
        for value in no_runs():
            check_fields(self, InvalidScene("run", -1), failures_behind, value, None)

    def test_clients(self):
        for client in no_clients(2):
            check_fields(self, InvalidClient(client), failures_behind, Run(storm()), client)
            check_fields(self, InvalidClient(client), failures_behind, Run(Scene(EVEN, [3, 3])), client)


class FailureBounds(unittest.TestCase):
    def test_document(self):
        self.assertEqual(failure_bounds(storm()), (None, 1))

    def test_first_bound(self):
        for length, expected in ((1, 0), (2, 3), (4, 3), (5, None), (FAR, None)):
            self.assertEqual(failure_bounds(Scene(Rule([4, 9], ("end",)), [0, 5, -7, 9], length=length)), (expected, 3))
            self.assertEqual(failure_bounds(Scene(Rule([9, 4], ("times", 4)), [0, 5, -7, 9], length=length)),
                             (expected, 3))

    def test_no_gap(self):
        for length, expected in ((1, 0), (2, 1), (FAR, 1)):
            self.assertEqual(failure_bounds(Scene(ALONE, [0, 5], length=length)), (expected, 1))

    def test_numbers_of_clients(self):
        for many in (1, 2, 40):
            self.assertEqual(failure_bounds(Scene(DOUBLED, list(range(many)))), (0, many - 1))
            self.assertEqual(failure_bounds(Scene(Rule([7], ("times", 2)), list(range(many)), length=7)),
                             (many - 1, many - 1))

    def test_no_bounds(self):
        for length in (1, 3):
            self.assertIsNone(failure_bounds(Scene(DOUBLED, [0, 1, 0], length=length)))
            self.assertIsNone(failure_bounds(Scene(EVEN, [0, 1], length=length)))
            self.assertIsNone(failure_bounds(Scene(Rule([1, 1], ("end",)), [0, 1], length=length)))
            self.assertIsNone(failure_bounds(Scene(Rule([1, 1], ("times", 2)), [0], length=length)))

    def test_bounds_hold(self):
        checked = 0
        for parts in small_scenes(900, 53):
            bounds = failure_bounds(parts.scene())
            if bounds is None:
                continue
            run = Run(parts.scene())
            for client in range(len(parts.starts)):
                behind = failures_behind(run, client)
                self.assertLessEqual(behind[1], bounds[1])
                if bounds[0] is not None:
                    self.assertLessEqual(behind[0], bounds[0], parts)
                if parts.length == 1:
                    self.assertLessEqual(sum(behind), bounds[1])
                checked += 1
        self.assertGreater(checked, 300)

    def test_starts_and_outages_do_not_matter(self):
        for starts in ([0, 1], [FAR, -FAR]):
            for outages in ([], [(0, 1)], [(-FAR, FAR)]):
                self.assertEqual(failure_bounds(Scene(DOUBLED, starts, outages=outages, length=2)), (None, 1))

    def test_scenes(self):
        for value in no_scenes():
            check_fields(self, InvalidScene("scene", -1), failure_bounds, value)


def stepped_blocking(gaps, tail, start, low, many):
    """Return the blocking starts, by trying all starts."""
    offsets = stepped_offsets(gaps, tail, 60 if tail[0] == "times" else 200)
    slots = [start + offset for offset in offsets if start + offset >= 0][:many]
    if len(slots) < many:
        return None
    found = []
    for slot in slots:
        for begin in range(-1, low - 1, -1):
            first = [begin + offset for offset in offsets if begin + offset >= 0][:1]
            if begin != start and begin not in found and first == [slot]:
                found.append(begin)
                break
        else:
            return None
    return found


class BlockingStarts(unittest.TestCase):
    def test_small_rules(self):
        found = {True: 0, False: 0}
        for gaps, tail in small_rules():
            rule = Rule(gaps, tail)
            for low in (-1, -3, -12, -30):
                for start in sorted({-1, low, low // 2}):
                    for many in (0, 1, 2, 4):
                        expected = stepped_blocking(gaps, tail, start, low, many)
                        self.assertEqual(blocking_starts(rule, start, low, many), expected,
                                         (gaps, tail, start, low, many))
                        found[expected is None] += 1
        self.assertGreater(min(found.values()), 200)

    def test_longer_rules(self):
        chance = random.Random(54)
        for _ in range(400):
            gaps = [chance.randint(1, chance.choice((3, 9, 20))) for _ in range(chance.randint(3, 7))]
            tail = chance.choice((("end",), ("times", 2), ("repeat", chance.randint(1, len(gaps)))))
            low = chance.randint(-60, -1)
            start = chance.randint(low, -1)
            for many in (1, 3, 6):
                self.assertEqual(blocking_starts(Rule(gaps, tail), start, low, many),
                                 stepped_blocking(gaps, tail, start, low, many), (gaps, tail, start, low, many))

    def test_document(self):
        self.assertEqual(blocking_starts(DOUBLED, -1, -20, 2), [-3, -5])

    def test_low_bound(self):
        self.assertEqual(blocking_starts(DOUBLED, -1, -5, 2), [-3, -5])
        self.assertIsNone(blocking_starts(DOUBLED, -1, -4, 2))
        self.assertIsNone(blocking_starts(DOUBLED, -1, -1, 1))
        self.assertEqual(blocking_starts(DOUBLED, -1, -1, 0), [])

    def test_attempts_of_the_client(self):
        rule = Rule([3, 1, 1], ("end",))
        self.assertEqual(blocking_starts(rule, -4, -9, 0), [])
        self.assertEqual(blocking_starts(rule, -4, -9, 1), [-3])
        self.assertIsNone(blocking_starts(rule, -4, -9, 3))
        self.assertIsNone(blocking_starts(rule, -9, -9, 1))
        self.assertEqual(blocking_starts(rule, -9, -9, 0), [])
        self.assertEqual(blocking_starts(ALONE, -1, -9, 0), [])
        self.assertIsNone(blocking_starts(ALONE, -1, -9, 1))

    def test_twenty_clients(self):
        found = blocking_starts(DOUBLED, -1, -10 ** 9, 20)
        self.assertEqual(found, [-2 ** (at + 1) - 1 for at in range(20)])
        scene = Scene(DOUBLED, [-1, *found], outages=[(-10 ** 9, 0)])
        self.assertEqual(failures_behind(Run(scene), 0), (0, 20))

    def test_the_client_fails(self):
        chance = random.Random(55)
        checked = 0
        for _ in range(300):
            gaps = [chance.randint(1, 9) for _ in range(chance.randint(1, 4))]
            tail = chance.choice((("end",), ("times", 2), ("times", 3), ("repeat", 1)))
            low = chance.randint(-900, -10)
            start = chance.randint(-9, -1)
            found = blocking_starts(Rule(gaps, tail), start, low, 2)
            if found is not None:
                run = Run(Scene(Rule(gaps, tail), [start, *found], outages=[(low, 0)]))
                behind = failures_behind(run, 0)
                self.assertTrue(behind is None or sum(behind) >= 2)
                checked += 1
        self.assertGreater(checked, 50)

    def test_no_smaller_number_has_this_effect(self):
        rule = Rule([1], ("times", 3))
        low = -14
        found = blocking_starts(rule, -1, low, 2)
        self.assertIsNotNone(found)
        for start in range(low, -1):
            run = Run(Scene(rule, [-1, start], outages=[(low, 0)]))
            self.assertLess(sum(failures_behind(run, 0)), 2)

    def test_thirty_digits(self):
        low = 1 - 10 ** 30
        self.assertEqual(blocking_starts(DOUBLED, -1, low, 2), [-3, -5])
        # The first attempts of this client lie in the slots 10 ** 12 - 10 ** 6 + 1, + 2 and + 2 + 10 ** 12.
        rule = Rule([10 ** 12, 1], ("repeat", 2))
        self.assertEqual(blocking_starts(rule, low, low, 2), [1 - 10 ** 6, 2 - 10 ** 6])
        self.assertIsNone(blocking_starts(rule, low, low, 3))
        # With equal gaps, the first attempt of any client lies before the second one of this client.
        self.assertIsNone(blocking_starts(Rule([5], ("repeat", 1)), low, low, 2))
        self.assertEqual(blocking_starts(Rule([5], ("repeat", 1)), -1, low, 1), [-6])
        self.assertEqual(blocking_starts(Rule([5], ("repeat", 1)), -6, low, 1), [-1])

    def test_errors_in_their_order(self):
        for value in no_rules():
            check_fields(self, InvalidScene("rule", -1), blocking_starts, value, None, None, None)
        for wrong in [*no_integers(), 0, 1, FAR]:
            check_fields(self, InvalidBound("low"), blocking_starts, DOUBLED, None, wrong, None)
            check_fields(self, InvalidBound("low"), blocking_starts, DOUBLED, -1, wrong, 2)
        for wrong in [*no_integers(), 0, 1, -21, -FAR, FAR]:
            check_fields(self, InvalidBound("start"), blocking_starts, DOUBLED, wrong, -20, None)
            check_fields(self, InvalidBound("start"), blocking_starts, DOUBLED, wrong, -20, 2)
        for wrong in [*no_integers(), -1, 21, FAR]:
            check_fields(self, InvalidBound("count"), blocking_starts, DOUBLED, -20, -20, wrong)


class Placements(unittest.TestCase):
    def test_document(self):
        self.assertEqual(placements(busy_pair(), 0, 2), [(0, ("ended",)), (1, ("ended",)), (2, ("served", 0, 2))])

    def test_small_scenes(self):
        for parts in small_scenes(150, 56):
            low = min(parts.starts) - 3
            found = placements(parts.scene(), low, low + 20)
            self.assertEqual(found, [(start, Stepped(with_start(parts, start)).outcomes()[-1])
                                     for start in range(low, low + 21)], parts)

    def test_numbers_of_starts(self):
        self.assertEqual(placements(busy_pair(), 2, 2), [(2, ("served", 0, 2))])
        self.assertEqual([start for start, outcome in placements(busy_pair(), -50, 49)], list(range(-50, 50)))

    def test_moved_and_multiplied_scenes(self):
        for parts in small_scenes(40, 57):
            found = placements(parts.scene(), -5, 5)
            moved = placements(shifted(parts, FAR).scene(), FAR - 5, FAR + 5)
            self.assertEqual(moved, [(start + FAR, (*outcome[:2], outcome[2] + FAR) if len(outcome) == 3 else outcome)
                                     for start, outcome in found])
            for start, outcome in found:
                wide = placements(multiplied(parts, 9).scene(), 9 * start, 9 * start)
                self.assertEqual(wide, [(9 * start, (*outcome[:2], 9 * outcome[2]) if len(outcome) == 3 else outcome)])

    def test_greatest_scene(self):
        rule = Rule([10 ** 12 - at * at for at in range(20)], ("repeat", 20))
        scene = Scene(rule, [FAR + at for at in range(39)], outages=[(FAR, 3 * FAR)], length=10 ** 25)
        found = placements(scene, FAR, FAR + 99)
        self.assertEqual([outcome[0] for start, outcome in found], ["never"] * 39 + ["served"] * 61)

    def test_the_scene_is_unchanged(self):
        scene = busy_pair()
        placements(scene, 0, 2).clear()
        self.assertEqual(scene, busy_pair())
        self.assertEqual(placements(scene, 2, 2), [(2, ("served", 0, 2))])


class HelpingAndHarming(unittest.TestCase):
    def test_document(self):
        self.assertEqual(helping_starts(busy_pair(), 1, 0, 2), [0])
        self.assertEqual(harming_starts(busy_pair(), 0, 0, 2), [0])

    def test_small_scenes(self):
        found = {"helping": 0, "harming": 0}
        for parts in small_scenes(200, 58):
            alone = Stepped(parts).outcomes()
            low = min(parts.starts) - 3
            run = {start: Stepped(with_start(parts, start)).outcomes() for start in range(low, low + 16)}
            for client in range(len(parts.starts)):
                slots = {start: outcomes[client] for start, outcomes in run.items()}
                worth = {start: outcome[2] if outcome[0] == "served" else FAR for start, outcome in slots.items()}
                before = alone[client][2] if alone[client][0] == "served" else FAR
                helping = [start for start in worth if worth[start] < before]
                harming = [start for start in worth if worth[start] > before]
                self.assertEqual(helping_starts(parts.scene(), client, low, low + 15), helping, (parts, client))
                self.assertEqual(harming_starts(parts.scene(), client, low, low + 15), harming, (parts, client))
                found["helping"] += len(helping)
                found["harming"] += len(harming)
                if parts.length == 1:
                    self.assertEqual(helping, [])
        self.assertGreater(min(found.values()), 50)

    def test_not_served_any_more(self):
        self.assertEqual(harming_starts(Scene(EVEN, [0]), 0, -4, 4), [0])
        self.assertEqual(harming_starts(Scene(ALONE, [7, 8]), 1, 7, 9), [8])
        self.assertEqual(helping_starts(Scene(EVEN, [0, 0]), 0, -4, 4), [])

    def test_moved_scenes(self):
        for parts in small_scenes(40, 59):
            client = len(parts.starts) - 1
            for call in (helping_starts, harming_starts):
                found = call(parts.scene(), client, -9, 9)
                self.assertEqual(call(shifted(parts, -FAR).scene(), client, -9 - FAR, 9 - FAR),
                                 [start - FAR for start in found])

    def test_a_hundred_starts(self):
        # A client that is served in slot 49 keeps the server busy in slot 51.
        self.assertEqual(harming_starts(Scene(EVEN, [0, 0, 51], length=3), 2, -10, 89), [49, 51])

    def test_returned_lists_are_new(self):
        scene = busy_pair()
        helping_starts(scene, 1, 0, 2).clear()
        harming_starts(scene, 0, 0, 2).append(1)
        self.test_document()
        self.assertEqual((helping_starts(scene, 1, 0, 2), harming_starts(scene, 0, 0, 2)), ([0], [0]))


class FurtherClientErrors(unittest.TestCase):
    def test_scenes(self):
        for value in no_scenes():
            check_fields(self, InvalidScene("scene", -1), placements, value, None, None)
            for call in (helping_starts, harming_starts):
                check_fields(self, InvalidScene("scene", -1), call, value, None, None, None)

    def test_forty_clients(self):
        scene = Scene(ALONE, list(range(40)))
        check_fields(self, InvalidScene("starts", 39), placements, scene, 0, 0)
        check_fields(self, InvalidScene("starts", 39), placements, scene, None, None)
        for call in (helping_starts, harming_starts):
            check_fields(self, InvalidScene("starts", 39), call, scene, None, None, None)
            check_fields(self, InvalidScene("starts", 39), call, scene, 40, 5, 4)
        scene = Scene(ALONE, list(range(39)))
        self.assertEqual(placements(scene, 38, 39), [(38, ("ended",)), (39, ("served", 0, 39))])
        self.assertEqual(harming_starts(scene, 38, 37, 39), [38])
        self.assertEqual(helping_starts(scene, 38, 37, 39), [])

    def test_clients(self):
        for client in no_clients(2):
            for call in (helping_starts, harming_starts):
                check_fields(self, InvalidClient(client), call, busy_pair(), client, None, None)
                check_fields(self, InvalidClient(client), call, busy_pair(), client, 0, 2)

    def test_bounds(self):
        calls = [lambda low, high: placements(busy_pair(), low, high),
                 lambda low, high: helping_starts(busy_pair(), 1, low, high),
                 lambda low, high: harming_starts(busy_pair(), 1, low, high)]
        for call in calls:
            for wrong in no_integers():
                check_fields(self, InvalidBound("low"), call, wrong, wrong)
                check_fields(self, InvalidBound("low"), call, wrong, 5)
                check_fields(self, InvalidBound("high"), call, 5, wrong)
            for low, high in ((5, 4), (0, 100), (-FAR, FAR), (FAR, -FAR), (FAR, FAR + 100), (0, -1)):
                check_fields(self, InvalidBound("high"), call, low, high)
            for low, high in ((5, 5), (0, 99), (FAR, FAR + 99)):
                call(low, high)


if __name__ == "__main__":
    unittest.main()
