"""Points 51 to 56: the effects of longer outages and of other rules."""

import random
import unittest

from retryslots import effects
from retryslots.effects import (
    compare_rules, earlier_recovery, first_wave, recovered_slot, recovery_table, total_attempts, with_longer_outage,
)
from retryslots.errors import InvalidBound, InvalidScene
from retryslots.rules import Rule
from retryslots.runs import Run
from retryslots.scenes import Scene
from retryslots.storms import settled_slot
from tests.changes import FAR, changed_scenes, multiplied, shifted
from tests.samples import check_fields, document_scene, no_integers, no_rules, no_runs, no_scenes
from tests.slot_by_slot import Parts, Stepped, small_scenes
from tests.stepping import stepped_offsets

FUNCTIONS = ["recovered_slot", "total_attempts", "with_longer_outage", "recovery_table", "earlier_recovery",
             "first_wave", "compare_rules"]
EVEN = Rule([2], ("repeat", 1))
DOUBLED = Rule([1], ("times", 2))
ALONE = Rule([], ("end",))
END = Rule([5, 3], ("end",))


def storm():
    """Return the scene of the document's examples of effects."""
    return Scene(DOUBLED, [0, 2], outages=[(0, 4)], length=3)


def two_outages():
    """Return a scene with two slots between its outages."""
    return Scene(DOUBLED, [0], outages=[(0, 4), (6, 9)])


def stepped_recovery(parts):
    """Return the slot of the last service, or None, slot by slot."""
    slots = [outcome[2] if outcome[0] == "served" else None for outcome in Stepped(parts).outcomes()]
    return None if None in slots else max(slots)


def longer(parts, at, extra):
    """Return the parts of a scene in which an outage ends later."""
    outages = list(parts.outages)
    outages[at] = (outages[at][0], outages[at][1] + extra)
    return Parts(parts.gaps, parts.tail, parts.starts, outages, parts.length)


def scenes_with_outages(many, seed):
    """Return the parts of small scenes with outages, with the number of one, and how much longer it may last."""
    chance = random.Random(seed)
    found = []
    for parts in small_scenes(many, seed):
        if parts.outages:
            at = chance.randrange(len(parts.outages))
            behind = parts.outages[at + 1:at + 2]
            room = behind[0][0] - parts.outages[at][1] if behind else 12
            found.append((parts, at, min(room, 12)))
    return found


class Interface(unittest.TestCase):
    def test_functions_are_defined_in_the_file(self):
        for name in FUNCTIONS:
            self.assertEqual(getattr(effects, name).__module__, "retryslots.effects")

    def test_arguments_by_name(self):
        self.assertEqual(recovered_slot(run=Run(storm())), 15)
        self.assertEqual(total_attempts(run=Run(storm())), 8)
        self.assertEqual(with_longer_outage(extra=0, at=0, scene=storm()), storm())
        self.assertEqual(recovery_table(most=2, at=0, scene=storm()), [15, 15, 17])
        self.assertIsNone(earlier_recovery(most=2, at=0, scene=storm()))
        self.assertEqual(first_wave(scene=storm()), [(5, 1), (7, 0)])
        self.assertEqual(compare_rules(length=3, outages=[(0, 4)], starts=[0, 2], other=EVEN, one=DOUBLED),
                         ((15, 8), (None, None)))
        self.assertRaises(TypeError, compare_rules, DOUBLED, EVEN, [0], [(0, 4)])
        self.assertRaises(TypeError, compare_rules, DOUBLED, EVEN, [0], None, 1)


class RecoveredAndTotal(unittest.TestCase):
    def test_document(self):
        run = Run(storm())
        self.assertEqual((recovered_slot(run), total_attempts(run)), (15, 8))

    def test_small_scenes(self):
        for parts in small_scenes(700, 111):
            stepped, run = Stepped(parts), Run(parts.scene())
            self.assertEqual(recovered_slot(run), stepped_recovery(parts))
            total = 0
            for outcome in stepped.outcomes():
                if outcome == ("never",):
                    total = None
                    break
                total += outcome[1] + 1 if outcome[0] == "served" else len(parts.gaps) + 1
            self.assertEqual(total_attempts(run), total)

    def test_clients_that_end(self):
        run = Run(Scene(END, [0, 0, 50]))
        self.assertEqual((recovered_slot(run), total_attempts(run)), (None, 7))
        run = Run(Scene(ALONE, [0, 0]))
        self.assertEqual((recovered_slot(run), total_attempts(run)), (None, 2))

    def test_clients_that_are_never_served(self):
        for rule in (EVEN, DOUBLED):
            run = Run(Scene(rule, [0, 0, 51]))
            self.assertEqual((recovered_slot(run), total_attempts(run)), (None, None))

    def test_long_outages(self):
        run = Run(Scene(EVEN, [0, 1], outages=[(0, 10 ** 25)], length=10 ** 25))
        self.assertEqual(recovered_slot(run), 2 * 10 ** 25 + 1)
        self.assertEqual(total_attempts(run), 5 * 10 ** 24 + 1 + 10 ** 25 + 1)

    def test_moved_and_multiplied_scenes(self):
        for parts in small_scenes(100, 112):
            run = Run(parts.scene())
            for scene in changed_scenes(parts):
                self.assertEqual(total_attempts(Run(scene)), total_attempts(run))
            slot = recovered_slot(run)
            moved = recovered_slot(Run(shifted(multiplied(parts, 5), FAR).scene()))
            self.assertEqual(moved, None if slot is None else 5 * slot + FAR)

    def test_runs(self):
        for value in no_runs():
            check_fields(self, InvalidScene("run", -1), recovered_slot, value)
            check_fields(self, InvalidScene("run", -1), total_attempts, value)


class LongerOutages(unittest.TestCase):
    def test_document(self):
        scene = two_outages()
        self.assertEqual(with_longer_outage(scene, 0, 2).outages(), [(0, 6), (6, 9)])
        self.assertEqual(scene, two_outages())

    def test_all_parts(self):
        for parts, at, room in scenes_with_outages(200, 113):
            for extra in range(room + 1):
                self.assertEqual(with_longer_outage(parts.scene(), at, extra), longer(parts, at, extra).scene())

    def test_room_behind_an_outage(self):
        scene = Scene(EVEN, [0], outages=[(0, 4), (4, 9), (11, 12)])
        self.assertEqual(with_longer_outage(scene, 0, 0), scene)
        self.assertEqual(with_longer_outage(scene, 1, 2).outages(), [(0, 4), (4, 11), (11, 12)])
        self.assertEqual(with_longer_outage(scene, 2, FAR).outages(), [(0, 4), (4, 9), (11, 12 + FAR)])
        for at, extra in ((0, 1), (0, FAR), (1, 3), (1, 4)):
            check_fields(self, InvalidBound("extra"), with_longer_outage, scene, at, extra)

    def test_errors_in_their_order(self):
        for value in no_scenes():
            check_fields(self, InvalidScene("scene", -1), with_longer_outage, value, None, None)
        for wrong in [*no_integers(), -1, 2, FAR]:
            check_fields(self, InvalidBound("at"), with_longer_outage, two_outages(), wrong, None)
            check_fields(self, InvalidBound("at"), with_longer_outage, two_outages(), wrong, 1)
        check_fields(self, InvalidBound("at"), with_longer_outage, Scene(EVEN, [0]), 0, 0)
        for wrong in [*no_integers(), -1, -FAR]:
            for at in (0, 1):
                check_fields(self, InvalidBound("extra"), with_longer_outage, two_outages(), at, wrong)

    def test_the_scene_is_unchanged(self):
        scene = two_outages()
        result = with_longer_outage(scene, 1, 0)
        self.assertIsNot(result, scene)
        result.outages().clear()
        self.assertEqual((result, scene), (two_outages(), two_outages()))


class RecoveryTables(unittest.TestCase):
    def test_document(self):
        self.assertEqual(recovery_table(storm(), 0, 2), [15, 15, 17])
        self.assertIsNone(earlier_recovery(storm(), 0, 2))

    def test_small_scenes(self):
        kinds = {"earlier": 0, "none": 0}
        for parts, at, room in scenes_with_outages(500, 114):
            table = [stepped_recovery(longer(parts, at, extra)) for extra in range(room + 1)]
            worth = [FAR if slot is None else slot for slot in table]
            for most in sorted({0, room // 2, room}):
                self.assertEqual(recovery_table(parts.scene(), at, most), table[:most + 1])
                expected = min([extra for extra in range(1, most + 1) if worth[extra] < worth[extra - 1]], default=None)
                self.assertEqual(earlier_recovery(parts.scene(), at, most), expected, (parts, at, most))
                kinds["none" if expected is None else "earlier"] += 1
                if parts.length == 1:
                    self.assertIsNone(expected)
        self.assertGreater(min(kinds.values()), 15)

    def test_served_earlier(self):
        # Client 0 is served in slot 0, so that client 1 fails in slot 1; or it is the other way round.
        scene = Scene(Rule([9], ("end",)), [0, 1], outages=[(-5, 0)], length=2)
        self.assertEqual((recovery_table(scene, 0, 1), earlier_recovery(scene, 0, 1)), ([10, 9], 1))

    def test_all_clients_are_served(self):
        # Client 1 fails in the service of client 0 and meets client 2, unless client 0 fails in slot 0.
        scene = Scene(Rule([3], ("end",)), [0, 1, 4], outages=[(-5, 0)], length=2)
        self.assertEqual(recovery_table(scene, 0, 3), [None, 7, None, None])
        self.assertEqual((earlier_recovery(scene, 0, 3), earlier_recovery(scene, 0, 1)), (1, 1))
        self.assertIsNone(earlier_recovery(with_longer_outage(scene, 0, 1), 0, 2))
        scene = Scene(ALONE, [0, 1], outages=[(-5, 0)], length=2)
        self.assertEqual((recovery_table(scene, 0, 2), earlier_recovery(scene, 0, 2)), ([None] * 3, None))

    def test_numbers_of_slots(self):
        self.assertEqual(recovery_table(storm(), 0, 0), [15])
        self.assertIsNone(earlier_recovery(storm(), 0, 0))
        table = recovery_table(storm(), 0, 99)
        self.assertEqual(len(table), 100)
        self.assertEqual(table[:3], [15, 15, 17])
        self.assertEqual(recovery_table(two_outages(), 0, 2), [15, 15, 15])

    def test_long_scenes(self):
        rule = Rule([10 ** 12 - at * at for at in range(20)], ("repeat", 20))
        scene = Scene(rule, list(range(-FAR, 40 - FAR)), outages=[(-FAR, FAR)], length=10 ** 25)
        table = recovery_table(scene, 0, 99)
        self.assertEqual(len(table), 100)
        self.assertTrue(all(slot >= FAR + 39 * 10 ** 25 for slot in table))
        self.assertEqual(table[99], recovered_slot(Run(with_longer_outage(scene, 0, 99))))

    def test_moved_scenes(self):
        for parts, at, room in scenes_with_outages(100, 115):
            table = recovery_table(parts.scene(), at, room)
            moved = shifted(parts, -FAR).scene()
            self.assertEqual(recovery_table(moved, at, room),
                             [None if slot is None else slot - FAR for slot in table])
            self.assertEqual(earlier_recovery(moved, at, room), earlier_recovery(parts.scene(), at, room))

    def test_errors_in_their_order(self):
        for call in (recovery_table, earlier_recovery):
            for value in no_scenes():
                check_fields(self, InvalidScene("scene", -1), call, value, None, None)
            for wrong in [*no_integers(), -1, 2, FAR]:
                check_fields(self, InvalidBound("at"), call, two_outages(), wrong, None)
                check_fields(self, InvalidBound("at"), call, two_outages(), wrong, 1)
            check_fields(self, InvalidBound("at"), call, Scene(EVEN, [0]), 0, 0)
            for wrong in [*no_integers(), -1, 100, FAR]:
                for at in (0, 1):
                    check_fields(self, InvalidBound("most"), call, two_outages(), at, wrong)
            # The longer outage may touch the next one.
            call(two_outages(), 0, 2)
            check_fields(self, InvalidBound("most"), call, two_outages(), 0, 3)
            call(two_outages(), 1, 99)
            scene = Scene(EVEN, [0], outages=[(0, 4), (4, 9)])
            call(scene, 0, 0)
            check_fields(self, InvalidBound("most"), call, scene, 0, 1)


class FirstWaves(unittest.TestCase):
    def test_document(self):
        self.assertEqual(first_wave(storm()), [(5, 1), (7, 0)])

    def test_small_scenes(self):
        checked = 0
        for parts in small_scenes(500, 116):
            settled = max([after for first, after in parts.outages], default=min(parts.starts))
            offsets = stepped_offsets(parts.gaps, parts.tail, 100)
            expected = []
            for client, start in enumerate(parts.starts):
                expected += [(start + offset, client) for offset in offsets if start + offset >= settled][:1]
            self.assertEqual(first_wave(parts.scene()), sorted(expected), parts)
            run = Run(parts.scene())
            slots = [slot for slot, client in expected]
            early = [slot for slot, client in run.order() if slot < settled]
            if parts.length == 1 and not early and len(set(slots)) == len(slots):
                self.assertEqual(run.order(), sorted(expected))
                checked += 1
        self.assertGreater(checked, 20)

    def test_no_outage(self):
        self.assertEqual(first_wave(Scene(END, [7, -3, 7])), [(-3, 1), (7, 0), (7, 2)])
        self.assertEqual(first_wave(Scene(ALONE, [FAR, -FAR])), [(-FAR, 1), (FAR, 0)])

    def test_clients_without_such_an_attempt(self):
        scene = Scene(END, [0, 1, 2, 50], outages=[(0, 10)])
        self.assertEqual(first_wave(scene), [(10, 2), (50, 3)])
        self.assertEqual(first_wave(Scene(ALONE, [0], outages=[(0, 1)])), [])
        self.assertEqual(first_wave(Scene(ALONE, [1], outages=[(0, 1)])), [(1, 0)])

    def test_served_before(self):
        scene = Scene(EVEN, [0, 11], outages=[(4, 9)])
        self.assertEqual(Run(scene).order(), [(0, 0), (11, 1)])
        self.assertEqual(first_wave(scene), [(10, 0), (11, 1)])

    def test_long_numbers(self):
        scene = Scene(Rule([4, 1, 2], ("repeat", 2)), [-FAR, -FAR + 1], outages=[(-FAR, FAR)])
        for slot, client in first_wave(scene):
            attempt = scene.attempt_in(client, slot)
            self.assertGreaterEqual(slot, settled_slot(scene))
            self.assertLess(scene.slot_of(client, attempt - 1), settled_slot(scene))

    def test_values_that_the_package_returned(self):
        last = DOUBLED.offset(1000)
        scene = Scene(DOUBLED, [0], outages=[(0, last + 1)])
        self.assertEqual(first_wave(scene), [(2 ** 1001 - 1, 0)])
        run = Run(scene)
        self.assertEqual((recovered_slot(run), total_attempts(run)), (2 ** 1001 - 1, 1002))

    def test_moved_and_multiplied_scenes(self):
        for parts in small_scenes(100, 117):
            moved = first_wave(shifted(multiplied(parts, 5), FAR).scene())
            self.assertEqual(moved, [(5 * slot + FAR, client) for slot, client in first_wave(parts.scene())])

    def test_scenes(self):
        for value in no_scenes():
            check_fields(self, InvalidScene("scene", -1), first_wave, value)


class ComparedRules(unittest.TestCase):
    def test_document(self):
        self.assertEqual(compare_rules(DOUBLED, EVEN, [0, 2], outages=[(0, 4)]), ((7, 7), (None, None)))

    def test_small_scenes(self):
        others = [ALONE, END, EVEN, DOUBLED]
        for at, parts in enumerate(small_scenes(200, 118)):
            one, other = parts.scene().rule(), others[at % 4]
            runs = [Run(parts.scene()), Run(Scene(other, parts.starts, outages=parts.outages, length=parts.length))]
            expected = tuple((recovered_slot(run), total_attempts(run)) for run in runs)
            self.assertEqual(compare_rules(one, other, parts.starts, outages=parts.outages, length=parts.length),
                             expected)
            self.assertEqual(compare_rules(other, one, parts.starts, outages=parts.outages, length=parts.length),
                             expected[::-1])

    def test_defaults(self):
        self.assertEqual(compare_rules(ALONE, END, [0, 1]), ((1, 2), (1, 2)))
        self.assertEqual(compare_rules(ALONE, END, [0, 1], outages=None), ((1, 2), (1, 2)))
        self.assertEqual(compare_rules(ALONE, END, [0, 1], length=2), ((None, 2), (6, 3)))

    def test_errors_in_their_order(self):
        for value in no_rules():
            check_fields(self, InvalidScene("rule", -1), compare_rules, value, None, None)
            check_fields(self, InvalidScene("rule", -1), compare_rules, EVEN, value, None, outages=5, length=None)
        for wrong in no_integers():
            if not isinstance(wrong, list):
                check_fields(self, InvalidScene("starts", -1), compare_rules, EVEN, END, wrong, outages=5, length=None)
            check_fields(self, InvalidScene("starts", 1), compare_rules, EVEN, END, [0, wrong], outages=5, length=None)
            check_fields(self, InvalidScene("outages", 0), compare_rules, EVEN, END, [0], outages=[wrong], length=None)
            check_fields(self, InvalidScene("length", -1), compare_rules, EVEN, END, [0], length=wrong)
        check_fields(self, InvalidScene("starts", -1), compare_rules, EVEN, END, [0] * 41)
        check_fields(self, InvalidScene("outages", 1), compare_rules, EVEN, END, [0], outages=[(3, 5), (4, 6)])
        check_fields(self, InvalidScene("outages", -1), compare_rules, EVEN, END, [0], outages=((3, 5),), length=0)
        check_fields(self, InvalidScene("length", -1), compare_rules, EVEN, END, [0], length=0)

    def test_lists_are_unchanged(self):
        starts, outages = [0, 2], [(0, 4)]
        compare_rules(DOUBLED, EVEN, starts, outages=outages)
        self.assertEqual((starts, outages), ([0, 2], [(0, 4)]))


class Orders(unittest.TestCase):
    def test_clients_in_another_order(self):
        chance = random.Random(119)
        for parts in small_scenes(150, 120):
            order = chance.sample(range(len(parts.starts)), len(parts.starts))
            other = Parts(parts.gaps, parts.tail, [parts.starts[client] for client in order], parts.outages,
                          parts.length)
            one, two = Run(parts.scene()), Run(other.scene())
            self.assertEqual((recovered_slot(one), total_attempts(one)), (recovered_slot(two), total_attempts(two)))
            self.assertEqual(sorted((slot, order[client]) for slot, client in first_wave(other.scene())),
                             first_wave(parts.scene()))

    def test_returned_lists_are_new(self):
        for _ in range(2):
            found = [recovery_table(storm(), 0, 2), first_wave(storm())]
            self.assertEqual(found, [[15, 15, 17], [(5, 1), (7, 0)]])
            for held in found:
                held.clear()
        self.assertEqual(recovered_slot(Run(document_scene())), 8)


if __name__ == "__main__":
    unittest.main()
