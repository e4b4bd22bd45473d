"""Point 24: what follows for moved, multiplied and reordered scenes, for equal starts, and for long distances."""

import random
import unittest
from itertools import permutations

from retryslots.rules import Rule
from retryslots.runs import Run
from retryslots.scenes import Scene
from tests.changes import FAR, multiplied, shifted
from tests.slot_by_slot import Parts, Stepped, small_scenes


def moved(outcomes, change):
    """Return outcomes whose slots are changed by a function."""
    return [(*outcome[:2], change(outcome[2])) if len(outcome) == 3 else outcome for outcome in outcomes]


class Changes(unittest.TestCase):
    def test_moved_scenes(self):
        for parts in small_scenes(300, 11):
            outcomes = Run(parts.scene()).outcomes()
            for number in (1, -7, FAR, -FAR - 1):
                run = Run(shifted(parts, number).scene())
                self.assertEqual(run.outcomes(), moved(outcomes, lambda slot: slot + number), (parts, number))

    def test_multiplied_scenes(self):
        for parts in small_scenes(300, 12):
            outcomes = Run(parts.scene()).outcomes()
            for number in (1, 2, 7, 10 ** 11):
                run = Run(multiplied(parts, number).scene())
                self.assertEqual(run.outcomes(), moved(outcomes, lambda slot: slot * number), (parts, number))

    def test_events_of_moved_and_multiplied_scenes(self):
        for parts in small_scenes(60, 13):
            stepped = Stepped(parts)
            run = Run(shifted(multiplied(parts, 10 ** 11), FAR).scene())
            for slot in range(stepped.first, min(stepped.first + 40, stepped.last)):
                self.assertEqual(run.event(slot * 10 ** 11 + FAR), stepped.events[slot], (parts, slot))
                self.assertEqual(run.active(slot * 10 ** 11 + FAR), stepped.active(slot), (parts, slot))

    def test_clients_in_another_order(self):
        for parts in small_scenes(150, 14):
            outcomes = Run(parts.scene()).outcomes()
            for order in list(permutations(range(len(parts.starts))))[::7]:
                starts = [parts.starts[client] for client in order]
                other = Parts(parts.gaps, parts.tail, starts, parts.outages, parts.length)
                self.assertEqual(Run(other.scene()).outcomes(), [outcomes[client] for client in order])


class EqualStarts(unittest.TestCase):
    def test_clients_with_equal_starts(self):
        for parts in small_scenes(400, 15):
            failed = ("ended",) if parts.tail[0] == "end" else ("never",)
            for start, outcome in zip(parts.starts, Run(parts.scene()).outcomes()):
                if parts.starts.count(start) > 1:
                    self.assertEqual(outcome, failed, parts)
                elif parts.tail[0] == "times":
                    self.assertEqual(outcome[0], "served", parts)

    def test_forty_clients(self):
        for tail in (("times", 2), ("times", 1000), ("repeat", 1)):
            run = Run(Scene(Rule([1], tail), [5] * 40, outages=[(0, FAR)], length=FAR))
            self.assertEqual(run.outcomes(), [("never",)] * 40)
        run = Run(Scene(Rule([1], ("times", 2)), [5] * 39 + [6], outages=[(0, FAR)], length=FAR))
        self.assertEqual(run.outcomes(), [("never",)] * 39 + [("served", 97, 6 + 2 ** 97 - 1)])

    def test_document(self):
        run = Run(Scene(Rule([1], ("repeat", 1)), [0, 0, 10 ** 29]))
        self.assertEqual(run.outcomes(), [("never",)] * 3)


class Certified(unittest.TestCase):
    """Checks each attempt of long scenes by itself, from the outcomes of the other clients."""

    def check_attempts(self, scene):
        run = Run(scene)
        outcomes = run.outcomes()
        for client, outcome in enumerate(outcomes):
            if outcome[0] == "served":
                last = outcome[1]
                self.assertEqual(scene.slot_of(client, last), outcome[2])
                self.assertIsNone(self.failure(scene, outcomes, client, outcome[2]))
            else:
                last = scene.rule().attempts() or 200
            for attempt in range(last):
                self.assertIsNotNone(self.failure(scene, outcomes, client, scene.slot_of(client, attempt)))
        self.assertEqual(run.order(), sorted((outcome[2], client) for client, outcome in enumerate(outcomes)
                                             if outcome[0] == "served"))
        return outcomes

    def failure(self, scene, outcomes, client, slot):
        """Return why an attempt of a client in a slot fails, or None."""
        if scene.outage_at(slot) is not None:
            return "outage"
        others = [other for other in range(len(outcomes)) if other != client]
        served = {other: outcomes[other][2] for other in others if outcomes[other][0] == "served"}
        if any(0 < slot - begin < scene.length() for begin in served.values()):
            return "busy"
        if any(served.get(other, slot) >= slot and scene.attempt_in(other, slot) is not None for other in others):
            return "met"
        return None

    def scenes(self, tails):
        """Return scenes with numbers of up to thirty digits, the same ones in each session."""
        chance = random.Random(16)
        for at in range(60):
            gaps = [chance.randint(1, 10 ** chance.randint(0, 12)) for _ in range(chance.randint(1, 20))]
            low = chance.choice((-40, -10 ** 13, -FAR))
            starts = [chance.randint(low, 0) for _ in range(chance.choice((2, 10, 40)))]
            if at in range(0, 60, 3):
                starts = list(range(-len(starts), 0))
            outages = chance.choice(([], [(low, 0)], [(low, 5), (5, 10 ** 14), (10 ** 14 + 1, FAR)]))
            length = chance.choice((1, 2, 1000, 10 ** 12, FAR))
            yield Scene(Rule(gaps, chance.choice(tails)), starts, outages=outages, length=length)

    def test_growing_gaps(self):
        for scene in self.scenes([("times", 2), ("times", 3), ("times", 1000)]):
            outcomes = self.check_attempts(scene)
            for start, outcome in zip(scene.starts(), outcomes):
                self.assertEqual(outcome[0], "served" if scene.starts().count(start) == 1 else "never")

    def test_attempts_that_end(self):
        for scene in self.scenes([("end",)]):
            for outcome in self.check_attempts(scene):
                self.assertIn(outcome[0], ("served", "ended"))

    def test_served_however_late(self):
        scene = Scene(Rule([1], ("times", 2)), [0, 1], outages=[(0, 10 ** 30 - 1)], length=10 ** 30 - 1)
        outcomes = self.check_attempts(scene)
        self.assertEqual(outcomes, [("served", 100, 2 ** 100 - 1), ("served", 101, 2 ** 101)])


class Repeating(unittest.TestCase):
    def test_a_client_that_is_not_served_fails_for_ever(self):
        for parts in small_scenes(600, 17):
            if parts.tail[0] != "repeat":
                continue
            run = Run(parts.scene())
            never = [client for client, outcome in enumerate(run.outcomes()) if outcome == ("never",)]
            # Two periods, far behind everything else.
            for slot in range(FAR, FAR + 2 * sum(parts.gaps)):
                clients = run.attempting(slot)
                self.assertEqual(clients, [client for client in never
                                           if parts.scene().attempt_in(client, slot) is not None])
                self.assertNotEqual(len(clients), 1, parts)
                self.assertEqual(run.event(slot), ("met", clients) if clients else ("idle",))

    def test_late_clients(self):
        chance = random.Random(18)
        failures = 0
        for early in small_scenes(900, 19):
            if early.tail[0] == "repeat":
                failures += self.check_late_clients(early, chance)
        self.assertGreater(failures, 100)

    def check_late_clients(self, early, chance):
        """Check a scene in which further clients come very late; return how many of them fail at first."""
        late = [early.last() + chance.randint(0, 9) for _ in range(chance.randint(1, 4))]
        outages = [(early.last() + 1, early.last() + 4)] if chance.randint(0, 1) else []
        stepped = Stepped(Parts(early.gaps, early.tail, early.starts + late, early.outages + outages, early.length))
        more = (10 ** 28 + chance.randint(0, 9)) * Rule(early.gaps, early.tail).period()
        run = Run(Scene(Rule(early.gaps, early.tail), early.starts + [start + more for start in late],
                        outages=early.outages + [(first + more, after + more) for first, after in outages],
                        length=early.length))
        many = len(early.starts)
        self.assertEqual(run.outcomes()[:many], stepped.outcomes()[:many])
        self.assertEqual(run.outcomes()[many:], moved(stepped.outcomes()[many:], lambda slot: slot + more))
        return len([outcome for outcome in run.outcomes()[many:] if outcome[:2] != ("served", 0)])

    def settled(self, parts):
        """Return the slot from which the attempts of all clients repeat, whatever was served before."""
        return max(parts.starts) + sum(parts.gaps) + len(parts.starts) * parts.length

    def test_long_outages(self):
        for parts in small_scenes(900, 20):
            if parts.tail[0] != "repeat":
                continue
            after = self.settled(parts)
            before = [outage for outage in parts.outages if outage[1] < after]
            first = max([min(parts.starts) + 3, *[outage[1] for outage in before]])
            stepped = Stepped(Parts(parts.gaps, parts.tail, parts.starts, before + [(first, after + 1)], parts.length))
            periods = 10 ** 28 + 3
            more = periods * Rule(parts.gaps, parts.tail).period()
            run = Run(Scene(Rule(parts.gaps, parts.tail), parts.starts, outages=before + [(first, after + 1 + more)],
                            length=parts.length))
            expected = [("served", outcome[1] + periods * parts.tail[1], outcome[2] + more)
                        if outcome[0] == "served" and outcome[2] > after else outcome
                        for outcome in stepped.outcomes()]
            self.assertEqual(run.outcomes(), expected, parts)

    def test_long_services(self):
        for parts in small_scenes(900, 21):
            if parts.tail[0] != "repeat":
                continue
            outages = [(min(parts.starts), self.settled(parts))]
            stepped = Stepped(Parts(parts.gaps, parts.tail, parts.starts, outages, parts.length))
            periods = 10 ** 28 + 3
            more = periods * Rule(parts.gaps, parts.tail).period()
            run = Run(Scene(Rule(parts.gaps, parts.tail), parts.starts, outages=outages, length=parts.length + more))
            self.assertEqual(run.order(), [(slot + at * more, client)
                                           for at, (slot, client) in enumerate(stepped.order())], parts)
            for at, (slot, client) in enumerate(stepped.order()):
                attempt = stepped.outcomes()[client][1] + at * periods * parts.tail[1]
                self.assertEqual(run.outcome(client), ("served", attempt, slot + at * more))

    def test_a_late_client_among_blocked_ones(self):
        # The offsets 0, 7, 9, 11, ..: the clients 0 and 1 meet in odd slots from slot 9 on.
        rule = Rule([7, 2], ("repeat", 1))
        for start, outcome in ((FAR, ("served", 0, FAR)), (FAR + 1, ("served", 1, FAR + 8)), (FAR + 2, None)):
            run = Run(Scene(rule, [0, 2, start], outages=[(0, 9), (FAR + 2, FAR + 3)]))
            self.assertEqual(run.outcomes(), [("never",), ("never",), outcome or ("never",)])

    def test_twenty_long_gaps_and_forty_clients(self):
        gaps = [10 ** 12 - more for more in range(20)]
        rule = Rule(gaps, ("repeat", 10))
        starts = [more * more * more for more in range(20)]
        pairs = starts + [start + 10 ** 16 * rule.period() for start in starts]
        run = Run(Scene(rule, pairs, outages=[(0, 5 * FAR)], length=1))
        self.assertEqual(run.outcomes(), [("never",)] * 40)
        run = Run(Scene(rule, pairs, outages=[(0, 5 * FAR)], length=10 ** 30 - 1))
        self.assertEqual(run.outcomes(), [("never",)] * 40)
        run = Run(Scene(rule, pairs[:39], outages=[(0, 5 * FAR)], length=10 ** 30 - 1))
        self.assertEqual([outcome[0] for outcome in run.outcomes()].count("served"), 1)
        self.assertEqual(run.outcome(19)[0], "served")
        self.assertGreaterEqual(run.outcome(19)[2], 5 * FAR)
        self.assertLess(run.outcome(19)[2], 5 * FAR + rule.period())


if __name__ == "__main__":
    unittest.main()
