"""Points 28 and 29: sets of clients that make one another fail for ever."""

import random
import unittest
from itertools import combinations, product

from retryslots.errors import InvalidClient, InvalidScene, InvalidSlot
from retryslots.reasons import closed_set, is_closed
from retryslots.rules import Rule
from retryslots.runs import Run
from retryslots.scenes import Scene
from tests.changes import FAR, changed_scenes, shifted
from tests.samples import check_fields, document_scene, endless_list, no_clients, no_integers, no_runs, no_scenes
from tests.slot_by_slot import Parts, small_scenes
from tests.stepping import stepped_offsets

EVEN = Rule([2], ("repeat", 1))
ROUND = Rule([4, 1, 2], ("repeat", 2))
DOUBLED = Rule([1], ("times", 2))


def stepped_closed(parts, slot, members):
    """Tell whether clients are a closed set, by their attempts up to a late slot."""
    last = max([slot, *parts.starts]) + 4 * sum(parts.gaps) + 2
    if parts.tail[0] == "times":
        last = 2 ** 40
    offsets = stepped_offsets(parts.gaps, parts.tail, 50 if parts.tail[0] == "times" else 1000)
    places = {client: [parts.starts[client] + offset for offset in offsets] for client in members}
    for client in members:
        for place in places[client]:
            if slot <= place <= last and not any(place in places[other] for other in members if other != client):
                return False
    return len(members) > 1


class ClosedSets(unittest.TestCase):
    def check_closed_set(self, parts, run, client):
        found = closed_set(run, client)
        if run.outcome(client) != ("never",):
            self.assertIsNone(found)
            return 0
        self.assertIs(found.__class__, tuple)
        slot, members = found
        self.assertIs(members.__class__, list)
        self.assertEqual(members, sorted(set(members)))
        self.assertIn(client, members)
        self.assertEqual([run.outcome(member) for member in members], [("never",)] * len(members))
        self.assertIs(is_closed(run.scene(), slot, members), True)
        return 1

    def test_small_scenes(self):
        checked = 0
        for parts in small_scenes(600, 41):
            run = Run(parts.scene())
            for client in range(len(parts.starts)):
                checked += self.check_closed_set(parts, run, client)
                if run.outcome(client) == ("never",):
                    slot, members = closed_set(run, client)
                    self.assertTrue(stepped_closed(parts, slot, members), (parts, slot, members))
        self.assertGreater(checked, 200)

    def test_moved_and_multiplied_scenes(self):
        for parts in small_scenes(60, 42):
            for scene in changed_scenes(parts):
                run = Run(scene)
                for client in range(len(parts.starts)):
                    self.check_closed_set(parts, run, client)

    def test_document(self):
        self.assertIsNone(closed_set(Run(document_scene()), 0))
        self.assertEqual(closed_set(Run(Scene(EVEN, [3, 3])), 1)[1], [0, 1])

    def test_three_that_block_one_another(self):
        run = Run(Scene(ROUND, [FAR, FAR + 1, FAR + 2], outages=[(FAR, FAR + 6)]))
        for client in range(3):
            slot, members = closed_set(run, client)
            self.assertEqual(members, [0, 1, 2])
            self.assertIs(is_closed(run.scene(), slot, members), True)

    def test_clients_that_end(self):
        run = Run(Scene(Rule([5, 3], ("end",)), [0, 0, 50]))
        self.assertEqual([closed_set(run, client) for client in range(3)], [None] * 3)

    def test_forty_clients(self):
        gaps = [10 ** 12 - at * at for at in range(20)]
        for tail in (("repeat", 20), ("repeat", 3), ("times", 1000)):
            run = Run(Scene(Rule(gaps, tail), [at % 20 for at in range(40)], length=FAR))
            for client in (0, 20, 39):
                self.check_closed_set(None, run, client)

    def test_the_same_call_again(self):
        run = Run(Scene(EVEN, [3, 1, 3, 5]))
        first = closed_set(run, 0)
        self.assertEqual(closed_set(run=Run(run.scene()), client=0), first)
        kept = (first[0], list(first[1]))
        first[1].clear()
        self.assertEqual(closed_set(run, 0), kept)

    def test_runs(self):
        for value in no_runs():
            check_fields(self, InvalidScene("run", -1), closed_set, value, None)

    def test_clients(self):
        for run, many in ((Run(document_scene()), 2), (Run(Scene(EVEN, [3, 3, 3])), 3)):
            for client in no_clients(many):
                check_fields(self, InvalidClient(client), closed_set, run, client)


class IsClosed(unittest.TestCase):
    def test_document(self):
        scene = Scene(EVEN, [0, 2, 4])
        found = [is_closed(scene, 4, [0, 1, 2]), is_closed(scene, 2, [0, 1]), is_closed(scene, 1, [0, 2]),
                 is_closed(scene, 4, [0])]
        self.assertEqual(found, [True, True, False, False])

    def test_small_scenes(self):
        found = {True: 0, False: 0}
        for parts in small_scenes(700, 43):
            scene = parts.scene()
            reach = max(parts.starts) + sum(parts.gaps) + 2
            for many in (2, 3, len(parts.starts)):
                for members in list(combinations(range(len(parts.starts)), many))[:6]:
                    for slot in sorted({min(parts.starts), max(parts.starts) - 1, max(parts.starts), reach - 3, reach}):
                        expected = stepped_closed(parts, slot, members)
                        self.assertIs(is_closed(scene, slot, list(members)), expected, (parts, slot, members))
                        found[expected] += 1
        self.assertGreater(min(found.values()), 300)

    def test_few_residues(self):
        chance = random.Random(44)
        found = {True: 0, False: 0}
        for _ in range(3000):
            gaps = [chance.randint(1, 3) for _ in range(chance.randint(1, 4))]
            parts = Parts(gaps, ("repeat", chance.randint(1, len(gaps))), [chance.randint(0, 9) for _ in range(4)])
            members = chance.sample(range(4), chance.randint(2, 4))
            slot = chance.randint(-2, 20)
            expected = stepped_closed(parts, slot, members)
            self.assertIs(is_closed(parts.scene(), slot, members), expected, (parts, slot, members))
            found[expected] += 1
        self.assertGreater(min(found.values()), 300)

    def test_met_before_the_gaps_repeat(self):
        # The offsets 0, 2, 4, 10, 12, ..: single attempts of later clients meet repeating ones of client 0.
        found = {True: 0, False: 0}
        for starts in product((0,), (0, 2, 4, 6, 10), (0, 2, 8, 12)):
            parts = Parts([2, 2, 6, 2], ("repeat", 1), starts)
            for slot in range(0, 26, 2):
                for members in ([0, 1], [0, 2], [1, 2], [0, 1, 2]):
                    expected = stepped_closed(parts, slot, members)
                    self.assertIs(is_closed(parts.scene(), slot, members), expected, (starts, slot, members))
                    found[expected] += 1
        self.assertGreater(min(found.values()), 100)

    def test_order_of_the_members(self):
        scene = Scene(EVEN, [0, 2, 4])
        for members in ([2, 1, 0], [1, 0, 2], [2, 0, 1]):
            self.assertIs(is_closed(scene, 4, members), True)
        self.assertIs(is_closed(members=[1, 0], slot=2, scene=scene), True)

    def test_behind_the_end(self):
        scene = Scene(Rule([5, 3], ("end",)), [0, 0, 1, 20])
        self.assertIs(is_closed(scene, 0, [0, 1]), True)
        self.assertIs(is_closed(scene, 0, [0, 2]), False)
        # Attempt 2 of client 2 lies in slot 9, and no attempt of the clients 0 to 2 behind it.
        self.assertIs(is_closed(scene, 9, [0, 2]), False)
        for slot in (10, 11, FAR):
            self.assertIs(is_closed(scene, slot, [0, 2]), True)
        self.assertIs(is_closed(scene, 10, [2]), False)
        self.assertIs(is_closed(scene, 10, []), False)
        self.assertIs(is_closed(scene, 10, [0, 3]), False)
        self.assertIs(is_closed(scene, 29, [2, 3]), True)

    def test_growing_gaps(self):
        scene = Scene(DOUBLED, [0, 0, 1, 1, 1, 7])
        for slot in (-FAR, 0, 5, FAR):
            self.assertIs(is_closed(scene, slot, [0, 1]), True)
            self.assertIs(is_closed(scene, slot, [0, 1, 2, 4]), True)
            self.assertIs(is_closed(scene, slot, [0, 1, 2]), False)
            self.assertIs(is_closed(scene, slot, [0, 1, 5]), False)
            self.assertIs(is_closed(scene, slot, [0, 2]), False)

    def test_clients_far_apart(self):
        scene = Scene(EVEN, [0, FAR, FAR + 1])
        self.assertIs(is_closed(scene, FAR, [0, 1]), True)
        self.assertIs(is_closed(scene, FAR - 1, [0, 1]), True)
        self.assertIs(is_closed(scene, FAR - 2, [0, 1]), False)
        self.assertIs(is_closed(scene, 0, [0, 1]), False)
        self.assertIs(is_closed(scene, FAR, [0, 2]), False)
        self.assertIs(is_closed(scene, 2 * FAR, [0, 1, 2]), False)

    def test_moved_scenes(self):
        for parts in small_scenes(150, 45):
            members = list(range(len(parts.starts)))
            for slot in (min(parts.starts), max(parts.starts) + 5, max(parts.starts) + sum(parts.gaps)):
                expected = is_closed(parts.scene(), slot, members)
                self.assertIs(is_closed(shifted(parts, FAR).scene(), slot + FAR, members), expected)

    def test_greatest_scenes(self):
        rule = Rule([10 ** 12 - at * at for at in range(20)], ("repeat", 10))
        near = list(range(20))
        scene = Scene(rule, near + [start + 10 ** 12 * rule.period() for start in near])
        self.assertIs(is_closed(scene, 10 ** 13 * rule.period(), list(range(40))), True)
        self.assertIs(is_closed(scene, 10 ** 12 * rule.period() - 10 ** 9, list(range(40))), False)
        scene = Scene(rule, near + near)
        self.assertIs(is_closed(scene, -FAR, list(range(40))), True)
        self.assertIs(is_closed(scene, -FAR, list(range(39))), False)

    def test_other_objects(self):
        scene = Scene(EVEN, [0, 2, 4])
        values = [*no_integers(), 0, 1, (0, 1), (0, 1, 2), {0, 1}, {0: 1, 1: 0}, range(2), "01"]
        values += [[0, 0], [0, 1, 0], [0, 3], [0, -1], [0, 1, 40], [1], [0, 1, FAR], endless_list()]
        for wrong in no_integers():
            values += [[0, wrong], [wrong, 0], [0, 1, wrong]]
        for value in values:
            self.assertIs(is_closed(scene, 9, value), False)

    def test_scenes(self):
        for value in no_scenes():
            check_fields(self, InvalidScene("scene", -1), is_closed, value, None, None)

    def test_slots(self):
        for wrong in no_integers():
            for members in ([0, 1], None, wrong):
                check_fields(self, InvalidSlot(wrong), is_closed, Scene(EVEN, [0, 2]), wrong, members)

    def test_members_are_unchanged(self):
        members = [2, 0, 1]
        is_closed(Scene(EVEN, [0, 2, 4]), 4, members)
        self.assertEqual(members, [2, 0, 1])


if __name__ == "__main__":
    unittest.main()
