"""Points 19 to 23: attempts and services, outcomes, their order, active clients, and events."""

import unittest

from retryslots.errors import InvalidClient, InvalidScene, InvalidSlot
from retryslots.rules import Rule
from retryslots.runs import Run
from retryslots.scenes import Scene
from tests.samples import attempt_call, no_integers
from tests.slot_by_slot import Parts, Stepped, small_scenes

METHODS = ["scene", "outcome", "outcomes", "order", "active", "attempting", "event"]
END = Rule([5, 3], ("end",))
ALONE = Rule([], ("end",))
DOUBLED = Rule([1], ("times", 2))
EVEN = Rule([2], ("repeat", 1))
FAR = 10 ** 29


def document_scene():
    """Return the scene of the document's examples."""
    return Scene(END, [0, -5], outages=[(-10, 0)], length=3)


def outcomes(rule, starts, outages=None, length=1):
    """Return the outcomes of a scene."""
    return Run(Scene(rule, starts, outages=outages, length=length)).outcomes()


class SlotBySlot(unittest.TestCase):
    def check_run(self, parts):
        stepped = Stepped(parts)
        run = Run(parts.scene())
        self.assertEqual(run.outcomes(), stepped.outcomes(), parts)
        self.assertEqual(run.order(), stepped.order(), parts)
        for client, outcome in enumerate(stepped.outcomes()):
            self.assertEqual(run.outcome(client), outcome)
        for slot in range(stepped.first, min(stepped.last, stepped.first + 90) + 1):
            self.assertEqual(run.event(slot), stepped.events[slot], (parts, slot))
            self.assertEqual(run.active(slot), stepped.active(slot), (parts, slot))
            self.assertEqual(run.attempting(slot), stepped.attempting(slot), (parts, slot))

    def test_small_scenes(self):
        for parts in small_scenes(1500, 1):
            self.check_run(parts)

    def test_all_starts_of_two_and_three_clients(self):
        for tail in (("end",), ("times", 2), ("repeat", 1), ("repeat", 2)):
            for second in range(8):
                for third in range(8):
                    self.check_run(Parts([2, 1], tail, [0, second, third]))
                    self.check_run(Parts([2, 1], tail, [3, second], [(third, third + 2)], 3))

    def test_twenty_gaps(self):
        for tail in (("end",), ("repeat", 20), ("repeat", 3), ("times", 2)):
            self.check_run(Parts([1, 2] * 10, tail, [0, 1, 3, 3, 7, 30], [(-1, 2), (5, 9)], 2))

    def test_forty_clients(self):
        for tail in (("end",), ("repeat", 2), ("repeat", 1)):
            self.check_run(Parts([3, 4], tail, list(range(40)), [(0, 20)], 2))
            self.check_run(Parts([3, 4], tail, [5 * client for client in range(40)], [(0, 20)], 3))
            self.check_run(Parts([3, 4], tail, [7 * client for client in range(20)] * 2))


class Services(unittest.TestCase):
    def test_one_client(self):
        for rule in (ALONE, END, DOUBLED, EVEN):
            for start in (0, -7, FAR, -FAR):
                self.assertEqual(outcomes(rule, [start]), [("served", 0, start)])
                self.assertEqual(outcomes(rule, [start], [(start + 1, start + 9)], 5), [("served", 0, start)])

    def test_first_and_last_slot_of_an_outage(self):
        self.assertEqual(outcomes(ALONE, [2, 3, 6, 7], [(3, 7)]),
                         [("served", 0, 2), ("ended",), ("ended",), ("served", 0, 7)])
        self.assertEqual(outcomes(EVEN, [0], [(0, 1)]), [("served", 1, 2)])
        self.assertEqual(outcomes(EVEN, [0], [(0, 2)]), [("served", 1, 2)])
        self.assertEqual(outcomes(EVEN, [0], [(0, 3)]), [("served", 2, 4)])
        self.assertEqual(outcomes(EVEN, [0], [(0, 3), (3, 5)]), [("served", 3, 6)])
        self.assertEqual(outcomes(EVEN, [0], [(0, 3), (4, 5)]), [("served", 3, 6)])
        self.assertEqual(outcomes(EVEN, [0], [(0, 3), (5, 6)]), [("served", 2, 4)])

    def test_ten_outages(self):
        outages = [(3 * at, 3 * at + 1) for at in range(10)]
        self.assertEqual(outcomes(Rule([3], ("repeat", 1)), [0], outages), [("served", 10, 30)])
        self.assertEqual(outcomes(Rule([3], ("repeat", 1)), [-3], outages), [("served", 0, -3)])
        self.assertEqual(outcomes(Rule([3] * 9, ("end",)), [0], outages), [("ended",)])

    def test_first_and_last_slot_of_a_service(self):
        expected = [("served", 0, 0), ("ended",), ("ended",), ("served", 0, 3)]
        self.assertEqual(outcomes(ALONE, [0, 1, 2, 3], length=3), expected)
        self.assertEqual(outcomes(ALONE, [0, 1, 2, 3], length=1), [("served", 0, slot) for slot in range(4)])
        self.assertEqual(outcomes(ALONE, [0, 1, 2, 3], length=4), [("served", 0, 0)] + [("ended",)] * 3)

    def test_an_outage_does_not_interrupt_a_service(self):
        self.assertEqual(outcomes(ALONE, [0, 5, 6], [(1, 4)], 6), [("served", 0, 0), ("ended",), ("served", 0, 6)])

    def test_an_outage_is_the_first_reason(self):
        run = Run(Scene(ALONE, [0, 1, 1, 2], outages=[(1, 2)], length=3))
        self.assertEqual([run.event(slot) for slot in range(4)],
                         [("served", 0), ("outage", 0, [1, 2]), ("busy", 0, [3]), ("idle",)])

    def test_busy_comes_before_met(self):
        run = Run(Scene(ALONE, [0, 1, 1], length=2))
        self.assertEqual(run.event(1), ("busy", 0, [1, 2]))

    def test_a_served_client_makes_no_further_attempts(self):
        self.assertEqual(outcomes(EVEN, [0, 2]), [("served", 0, 0), ("served", 0, 2)])
        self.assertEqual(outcomes(Rule([1], ("repeat", 1)), [0, 1, 2]), [("served", 0, slot) for slot in range(3)])

    def test_attempts_end(self):
        self.assertEqual(outcomes(END, [0, 0]), [("ended",), ("ended",)])
        self.assertEqual(outcomes(END, [0], [(0, 8)]), [("served", 2, 8)])
        self.assertEqual(outcomes(END, [0], [(0, 9)]), [("ended",)])

    def test_attempts_repeat(self):
        self.assertEqual(outcomes(EVEN, [0, 2, 4], [(0, 5)]), [("never",)] * 3)
        self.assertEqual(outcomes(EVEN, [0, 2, 4, 101], [(0, 5)]), [("never",)] * 3 + [("served", 0, 101)])
        self.assertEqual(outcomes(Rule([2, 4], ("repeat", 2)), [0, 2, 3], [(0, 8)]),
                         [("served", 4, 12), ("served", 3, 10), ("served", 2, 9)])

    def test_one_closed_set_of_three(self):
        # Each client meets one other client in each of its attempts, and no two of them always meet.
        rule = Rule([4, 1, 2], ("repeat", 2))
        self.assertEqual(outcomes(rule, [0, 1, 2], [(0, 6)]), [("never",)] * 3)
        self.assertNotIn(("never",), outcomes(rule, [0, 1], [(0, 6)]))
        # A service behind which two clients are left sets them free.
        self.assertNotIn(("never",), outcomes(rule, [0, 1, 2]))


class Outcomes(unittest.TestCase):
    def test_kinds(self):
        self.assertEqual(outcomes(END, [3, 3, 50]), [("ended",), ("ended",), ("served", 0, 50)])
        self.assertEqual(outcomes(EVEN, [3, 3, 50]), [("never",), ("never",), ("served", 0, 50)])
        self.assertEqual(outcomes(DOUBLED, [3, 3, 51]), [("never",), ("never",), ("served", 0, 51)])

    def test_document(self):
        run = Run(document_scene())
        self.assertEqual(run.outcomes(), [("served", 2, 8), ("served", 2, 3)])
        self.assertEqual((run.outcome(0), run.outcome(1)), (("served", 2, 8), ("served", 2, 3)))
        self.assertEqual(run.order(), [(3, 1), (8, 0)])

    def test_scenes(self):
        for parts in small_scenes(20, 2):
            self.assertEqual(Run(parts.scene()).scene(), parts.scene())

    def test_order(self):
        run = Run(Scene(EVEN, [9, 1, 40, 9, 4]))
        self.assertEqual(run.order(), [(1, 1), (4, 4), (40, 2)])
        self.assertEqual(Run(Scene(END, [3, 3])).order(), [])
        for parts in small_scenes(100, 3):
            order = Run(parts.scene()).order()
            self.assertEqual(order, sorted(order))
            for (one, _), (other, _) in zip(order, order[1:]):
                self.assertGreaterEqual(other - one, parts.length)


class ActiveClients(unittest.TestCase):
    def test_document(self):
        run = Run(document_scene())
        self.assertEqual((run.active(-1), run.active(4), run.attempting(0), run.active(9)), ([1], [0], [0, 1], []))

    def test_first_and_last_slots(self):
        run = Run(document_scene())
        found = {slot: run.active(slot) for slot in (-6, -5, -1, 0, 3, 4, 8, 9)}
        self.assertEqual(found, {-6: [], -5: [1], -1: [1], 0: [0, 1], 3: [0, 1], 4: [0], 8: [0], 9: []})
        found = {slot: run.attempting(slot) for slot in (-6, -5, -4, 0, 1, 3, 5, 8, 9, 13)}
        self.assertEqual(found, {-6: [], -5: [1], -4: [], 0: [0, 1], 1: [], 3: [1], 5: [0], 8: [0], 9: [], 13: []})

    def test_no_attempts_left(self):
        run = Run(Scene(END, [0, 0]))
        self.assertEqual([run.active(slot) for slot in (0, 1, 8, 9, FAR)], [[0, 1], [0, 1], [0, 1], [], []])

    def test_before_and_behind_everything(self):
        for rule, behind in ((END, []), (EVEN, [0, 1]), (DOUBLED, [0, 1])):
            run = Run(Scene(rule, [0, 0, 7]))
            self.assertEqual((run.active(-1), run.active(-FAR), run.attempting(-FAR)), ([], [], []))
            self.assertEqual((run.active(FAR), run.active(FAR + 1)), (behind, behind))
        run = Run(Scene(EVEN, [0, 0, 7]))
        self.assertEqual((run.attempting(FAR), run.attempting(FAR + 1)), ([0, 1], []))
        run = Run(Scene(DOUBLED, [0, 0, 7]))
        self.assertEqual((run.attempting(2 ** 99 - 1), run.attempting(2 ** 99)), ([0, 1], []))


class Events(unittest.TestCase):
    def test_document(self):
        run = Run(document_scene())
        found = [run.event(slot) for slot in (0, 5, 4, 3, -5, 1)]
        self.assertEqual(found, [("met", [0, 1]), ("busy", 1, [0]), ("busy", 1, []), ("served", 1),
                                 ("outage", 0, [1]), ("idle",)])

    def test_first_and_last_slots(self):
        run = Run(document_scene())
        found = {slot: run.event(slot) for slot in (-11, -10, -1, 2, 6, 7, 8, 9, 10, 11)}
        self.assertEqual(found, {
            -11: ("idle",), -10: ("outage", 0, []), -1: ("outage", 0, []), 2: ("idle",), 6: ("idle",), 7: ("idle",),
            8: ("served", 0), 9: ("busy", 0, []), 10: ("busy", 0, []), 11: ("idle",),
        })

    def test_touching_outages(self):
        run = Run(Scene(EVEN, [0, 1], outages=[(-2, 1), (1, 3)]))
        self.assertEqual([run.event(slot) for slot in range(-3, 5)], [
            ("idle",), ("outage", 0, []), ("outage", 0, []), ("outage", 0, [0]), ("outage", 1, [1]),
            ("outage", 1, [0]), ("served", 1), ("served", 0),
        ])

    def test_length_one_is_never_busy(self):
        run = Run(Scene(EVEN, [0, 1]))
        self.assertEqual([run.event(slot) for slot in range(4)], [("served", 0), ("served", 1), ("idle",), ("idle",)])

    def test_before_and_behind_everything(self):
        run = Run(document_scene())
        for slot in (-FAR, -12, 12, 13, FAR):
            self.assertEqual(run.event(slot), ("idle",))
        run = Run(Scene(EVEN, [0, 0]))
        self.assertEqual((run.event(-2), run.event(FAR), run.event(FAR + 1)), (("idle",), ("met", [0, 1]), ("idle",)))


class WrongArguments(unittest.TestCase):
    def test_scenes(self):
        scene = document_scene()
        for value in [*no_integers(), 0, 1, END, Scene, scene.starts, Run(scene), [scene], (END, [0])]:
            error = attempt_call(self, InvalidScene, Run, value)
            self.assertEqual(vars(error), {"part": "scene", "at": -1})

    def test_clients(self):
        run = Run(document_scene())
        for client in [*no_integers(), -1, -2, 2, 3, 40, FAR, -FAR]:
            error = attempt_call(self, InvalidClient, run.outcome, client)
            self.assertEqual(list(vars(error)), ["client"])
            self.assertIs(error.client, client)

    def test_slots(self):
        run = Run(document_scene())
        for slot in no_integers():
            for call in (run.active, run.attempting, run.event):
                error = attempt_call(self, InvalidSlot, call, slot)
                self.assertEqual(list(vars(error)), ["slot"])
                self.assertIs(error.slot, slot)

    def test_arguments_by_name(self):
        run = Run(scene=document_scene())
        self.assertEqual(run.outcome(client=1), ("served", 2, 3))
        self.assertEqual((run.active(slot=-1), run.attempting(slot=0)), ([1], [0, 1]))
        self.assertEqual(run.event(slot=3), ("served", 1))

    def test_methods_stand_in_the_class(self):
        self.assertEqual(Run.__module__, "retryslots.runs")
        for name in [*METHODS, "__init__"]:
            self.assertIn(name, vars(Run))


class Copies(unittest.TestCase):
    def assert_as_made(self, run):
        self.assertEqual(run.scene(), document_scene())
        self.assertEqual(run.outcomes(), [("served", 2, 8), ("served", 2, 3)])
        self.assertEqual(run.order(), [(3, 1), (8, 0)])
        self.assertEqual((run.active(0), run.attempting(0), run.event(0)), ([0, 1], [0, 1], ("met", [0, 1])))
        self.assertEqual((run.event(5), run.event(-5)), (("busy", 1, [0]), ("outage", 0, [1])))

    def test_lists_that_were_passed_in(self):
        starts, outages = [0, -5], [(-10, 0)]
        scene = Scene(Rule([5, 3], ("end",)), starts, outages=outages, length=3)
        run = Run(scene)
        starts[0] = 9
        outages.clear()
        self.assert_as_made(run)
        self.assert_as_made(Run(scene))

    def test_lists_that_were_returned(self):
        run = Run(document_scene())
        returned = [run.outcomes(), run.order(), run.active(0), run.attempting(0), run.event(0)[1], run.event(5)[2],
                    run.event(-5)[2], run.scene().starts(), run.scene().outages()]
        for held in returned:
            held[0] = (8, 9)
            held.append(3)
            held.clear()
        self.assert_as_made(run)

    def test_results_are_new(self):
        run = Run(document_scene())
        for call in (run.scene, run.outcomes, run.order, lambda: run.active(0), lambda: run.attempting(0)):
            self.assertEqual(call(), call())
            self.assertIsNot(call(), call())

    def test_the_scene_is_unchanged(self):
        scene = document_scene()
        run = Run(scene)
        run.outcomes()
        self.assertEqual(scene, document_scene())
        attempt_call(self, InvalidClient, run.outcome, 2)
        attempt_call(self, InvalidSlot, run.event, None)
        self.assert_as_made(run)

    def test_equal_scenes_give_equal_runs(self):
        for parts in small_scenes(50, 4):
            one, other = Run(parts.scene()), Run(parts.scene())
            self.assertEqual((one.scene(), one.outcomes(), one.order()), (other.scene(), other.outcomes(), other.order()))
            for slot in range(-20, 40):
                self.assertEqual(one.event(slot), other.event(slot))
                self.assertEqual(one.active(slot), other.active(slot))


if __name__ == "__main__":
    unittest.main()
