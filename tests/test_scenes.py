"""Points 17 and 18: what makes a scene, its parts, its equality, and where its rule places attempts."""

import unittest
from itertools import product

from retryslots.errors import InvalidAttempt, InvalidClient, InvalidScene, InvalidSlot, LimitExceeded
from retryslots.rules import Rule
from retryslots.scenes import Scene
from tests.samples import EqualToAll, Incomparable, attempt_call, endless_list, no_integers
from tests.stepping import small_rules, stepped_offsets

METHODS = ["rule", "starts", "outages", "length", "slot_of", "attempt_in", "outage_at"]
END = Rule([5, 3], ("end",))
DOUBLED = Rule([1, 2], ("times", 2))
ROUND = Rule([4, 1, 2], ("repeat", 2))
FAR = 10 ** 29


def document_scene():
    """Return the scene of the document's examples."""
    return Scene(END, [0, -5], outages=[(-10, 0)], length=3)


def no_rules():
    """Return objects that are not rules."""
    return [*no_integers(), 0, 1, ([5, 3], ("end",)), [5, 3], ("end",), Rule, document_scene()]


def no_outages():
    """Return objects that are not outages."""
    pairs = [(0, 0), (1, 0), (5, -5), (FAR, FAR), (1, 2, 3), (1,), [1, 2], ((1, 2),), {1: 2}, {1, 2}, "12", range(1, 3)]
    wrong = [(value, 2) for value in no_integers()] + [(0, value) for value in no_integers()]
    return [*no_integers(), *pairs, *wrong, 0, 1, -1]


def no_starts_lists():
    """Return objects that are not lists of so many starts as there may be clients."""
    kinds = [value for value in no_integers() if not isinstance(value, list)]
    return [*kinds, 0, 5, (0,), (0, 1), {0: 1}, range(2), [], [0] * 41, [None] * 41, list(range(1000))]


class Accepted(unittest.TestCase):
    def check_parts(self, rule, starts, outages, length):
        scene = Scene(rule, starts, outages=outages, length=length)
        self.assertEqual((scene.rule(), scene.starts(), scene.outages(), scene.length()),
                         (rule, starts, outages, length))
        self.assertIsInstance(scene.rule(), Rule)
        self.assertIsInstance(scene.starts(), list)
        self.assertIsInstance(scene.outages(), list)
        self.assertTrue(all(isinstance(outage, tuple) for outage in scene.outages()))

    def test_rules(self):
        for gaps, tail in small_rules():
            self.check_parts(Rule(gaps, tail), [0, 1], [(2, 3)], 2)

    def test_numbers_of_starts(self):
        for many in range(1, 41):
            self.check_parts(END, list(range(many)), [], 1)
            self.check_parts(END, [7] * many, [], 1)

    def test_starts(self):
        self.check_parts(END, [3, -3, 0, 3, FAR, -FAR, 10 ** 30 - 1], [], 1)

    def test_numbers_of_outages(self):
        for many in range(11):
            self.check_parts(END, [0], [(2 * at, 2 * at + 1) for at in range(many)], 1)
            self.check_parts(END, [0], [(at, at + 1) for at in range(many)], 1)

    def test_outages(self):
        self.check_parts(END, [0], [(-5, -4), (-4, 7), (9, 10)], 1)
        self.check_parts(END, [0], [(-FAR, FAR), (FAR, 9 * FAR)], 1)

    def test_lengths(self):
        for length in (1, 2, 3, 1000, 10 ** 30 - 1):
            self.check_parts(END, [0], [], length)

    def test_defaults(self):
        for scene in (Scene(END, [0]), Scene(END, [0], outages=None), Scene(END, [0], outages=[]),
                      Scene(END, [0], length=1)):
            self.assertEqual((scene.outages(), scene.length()), ([], 1))
            self.assertEqual(scene, Scene(END, [0], outages=None, length=1))

    def test_arguments_by_name(self):
        scene = Scene(length=3, outages=[(-10, 0)], starts=[0, -5], rule=END)
        self.assertEqual(scene, document_scene())
        self.assertRaises(TypeError, Scene, END, [0], [(0, 1)])
        self.assertRaises(TypeError, Scene, END, [0], None, 1)

    def test_methods_stand_in_the_class(self):
        self.assertEqual(Scene.__module__, "retryslots.scenes")
        for name in [*METHODS, "__init__", "__eq__"]:
            self.assertIn(name, vars(Scene))


class Refused(unittest.TestCase):
    def check_refused(self, part, at, *arguments, **named):
        error = attempt_call(self, InvalidScene, Scene, *arguments, **named)
        self.assertEqual(vars(error), {"part": part, "at": at}, (arguments[1:], named))

    def test_rules(self):
        for rule in no_rules():
            self.check_refused("rule", -1, rule, [0])

    def test_starts(self):
        for starts in no_starts_lists():
            self.check_refused("starts", -1, END, starts)

    def test_elements_of_starts(self):
        for wrong in no_integers():
            self.check_refused("starts", 0, END, [wrong])
            self.check_refused("starts", 0, END, [wrong] * 40)
            self.check_refused("starts", 2, END, [5, 5, wrong])
            self.check_refused("starts", 1, END, [5, wrong, 7, wrong])
            self.check_refused("starts", 39, END, [0] * 39 + [wrong])
            self.check_refused("starts", -1, END, [wrong] * 41)
        self.check_refused("starts", 0, END, endless_list())

    def test_outages(self):
        eleven = [(at, at + 1) for at in range(11)]
        kinds = [value for value in no_integers() if not isinstance(value, list) and value is not None]
        for outages in [*kinds, 0, 5, ((0, 1),), (0, 1), {(0, 1)}, {0: 1}, eleven, [None] * 11, eleven * 100]:
            self.check_refused("outages", -1, END, [0], outages=outages)

    def test_elements_of_outages(self):
        for wrong in no_outages():
            self.check_refused("outages", 0, END, [0], outages=[wrong])
            self.check_refused("outages", 0, END, [0], outages=[wrong] * 10)
            self.check_refused("outages", 1, END, [0], outages=[(-9, -8), wrong, (20, 21)])
            self.check_refused("outages", 9, END, [0], outages=[(at, at + 1) for at in range(-20, -11)] + [wrong])
            self.check_refused("outages", -1, END, [0], outages=[wrong] * 11)
        self.check_refused("outages", 0, END, [0], outages=endless_list())

    def test_outages_that_overlap(self):
        self.check_refused("outages", 1, END, [0, 1], outages=[(3, 5), (4, 6)])
        for second in ((3, 5), (2, 3), (2, 9), (4, 5), (-9, -8), (-9, 99)):
            self.check_refused("outages", 1, END, [0], outages=[(3, 5), second])
            self.check_refused("outages", 2, END, [0], outages=[(-99, -98), (3, 5), second, second])
        self.check_refused("outages", 1, END, [0], outages=[(0, FAR), (FAR - 1, 2 * FAR)])
        self.assertEqual(Scene(END, [0], outages=[(3, 5), (5, 6)]).outages(), [(3, 5), (5, 6)])

    def test_lengths(self):
        for length in [*no_integers(), 0, -1, -FAR]:
            self.check_refused("length", -1, END, [0], length=length)

    def test_first_invalid_argument(self):
        rules, starts, outages, lengths = (END, None), ([0], [None]), ([], [None]), (1, None)
        for rule, start, outage, length in product(rules, starts, outages, lengths):
            expected = None
            for part, at, valid in (("length", -1, length == 1), ("outages", 0, outage == []),
                                    ("starts", 0, start == [0]), ("rule", -1, rule is not None)):
                if not valid:
                    expected = (part, at)
            if expected is not None:
                self.check_refused(*expected, rule, start, outages=outage, length=length)
                error = attempt_call(self, InvalidScene, Scene, length=length, outages=outage, starts=start, rule=rule)
                self.assertEqual((error.part, error.at), expected)

    def test_arguments_are_unchanged(self):
        starts, outages = [0, 1], [(3, 5), (4, 6)]
        attempt_call(self, InvalidScene, Scene, END, starts, outages=outages)
        self.assertEqual((starts, outages), ([0, 1], [(3, 5), (4, 6)]))


class Copies(unittest.TestCase):
    def assert_as_made(self, scene):
        self.assertEqual((scene.rule().gaps(), scene.rule().tail()), ([5, 3], ("end",)))
        self.assertEqual((scene.starts(), scene.outages(), scene.length()), ([0, -5], [(-10, 0)], 3))
        self.assertEqual((scene.slot_of(1, 2), scene.attempt_in(0, 5), scene.outage_at(-1)), (3, 1, 0))
        self.assertEqual(scene, document_scene())

    def test_lists_that_were_passed_in(self):
        starts, outages = [0, -5], [(-10, 0)]
        scene = Scene(Rule([5, 3], ("end",)), starts, outages=outages, length=3)
        starts[0] = 9
        outages.append((7, 8))
        self.assert_as_made(scene)
        starts.clear()
        outages[0] = (3, 4)
        self.assert_as_made(scene)

    def test_lists_that_were_returned(self):
        scene = document_scene()
        for returned in (scene.starts(), scene.outages(), scene.rule().gaps()):
            returned[0] = (8, 9)
            returned.append(3)
            returned.clear()
        self.assert_as_made(scene)

    def test_results_are_new(self):
        scene = document_scene()
        for call in (scene.rule, scene.starts, scene.outages):
            self.assertEqual(call(), call())
            self.assertIsNot(call(), call())

    def test_calls_change_nothing(self):
        scene = document_scene()
        for _ in range(3):
            attempt_call(self, InvalidClient, scene.slot_of, 2, 0)
            attempt_call(self, InvalidSlot, scene.outage_at, None)
            self.assert_as_made(scene)


class Equality(unittest.TestCase):
    def scenes(self):
        return [
            document_scene(), Scene(END, [-5, 0], outages=[(-10, 0)], length=3),
            Scene(END, [0, -5], outages=[(-10, 0)], length=2), Scene(END, [0, -5], length=3),
            Scene(END, [0, -5], outages=[(-10, -1)], length=3), Scene(END, [0], outages=[(-10, 0)], length=3),
            Scene(END, [0, -5], outages=[(-10, -5), (-5, 0)], length=3),
            Scene(Rule([3, 5], ("end",)), [0, -5], outages=[(-10, 0)], length=3),
            Scene(Rule([5, 3], ("repeat", 1)), [0, -5], outages=[(-10, 0)], length=3), Scene(END, [0, -5]),
        ]

    def test_scenes(self):
        for at, one in enumerate(self.scenes()):
            for where, other in enumerate(self.scenes()):
                self.assertIs(one == other, at == where)
                self.assertIs(one != other, at != where)

    def test_other_objects(self):
        for scene in self.scenes():
            others = [*no_integers(), 0, 1, scene.rule(), scene.starts(), scene.outages(), scene.rule, Scene,
                      (scene.rule(), scene.starts(), scene.outages(), scene.length())]
            for other in others:
                self.assertIs(scene == other, False)
                self.assertIs(scene != other, True)

    def test_no_object_decides_for_itself(self):
        for other in (EqualToAll(), Incomparable(), endless_list()):
            self.assertIs(document_scene() == other, False)


class Places(unittest.TestCase):
    def test_as_stepped(self):
        starts = [0, -7, 3]
        for gaps, tail in small_rules():
            scene = Scene(Rule(gaps, tail), starts, outages=[(0, 9)], length=4)
            offsets = stepped_offsets(gaps, tail, 40)
            for client, start in enumerate(starts):
                for attempt, offset in enumerate(offsets):
                    self.assertEqual(scene.slot_of(client, attempt), start + offset)
                for slot in range(-10, 25):
                    expected = offsets.index(slot - start) if slot - start in offsets else None
                    self.assertEqual(scene.attempt_in(client, slot), expected)

    def test_service_is_not_considered(self):
        # Client 0 is served in its first slot.
        scene = Scene(DOUBLED, [0, 100])
        self.assertEqual((scene.slot_of(0, 4), scene.attempt_in(0, 15)), (15, 4))

    def test_outages(self):
        scene = Scene(END, [0], outages=[(-6, -3), (-3, -2), (4, 7)])
        found = [scene.outage_at(slot) for slot in range(-8, 9)]
        self.assertEqual(found, [None, None, 0, 0, 0, 1, None, None, None, None, None, None, 2, 2, 2, None, None])
        for slot in (-FAR, 0, FAR):
            self.assertIsNone(Scene(END, [0]).outage_at(slot))

    def test_ten_outages(self):
        scene = Scene(END, [0], outages=[(10 * at, 10 * at + 5) for at in range(10)])
        for at in range(10):
            found = [scene.outage_at(10 * at + more) for more in (-1, 0, 4, 5)]
            self.assertEqual(found, [None, at, at, None])

    def test_thirty_digits(self):
        scene = Scene(ROUND, [FAR, -FAR, 0], outages=[(-9 * FAR, -FAR), (FAR, 9 * FAR)])
        self.assertEqual(scene.slot_of(0, 2 * FAR + 1), FAR + 4 + 3 * FAR)
        self.assertEqual(scene.slot_of(1, 2 * FAR + 2), -FAR + 5 + 3 * FAR)
        self.assertEqual(scene.attempt_in(1, 2 * FAR + 4), 2 * FAR + 1)
        self.assertEqual(scene.attempt_in(0, 4 * FAR + 5), 2 * FAR + 2)
        self.assertIsNone(scene.attempt_in(0, 4 * FAR + 6))
        self.assertIsNone(scene.attempt_in(2, -FAR))
        found = [scene.outage_at(slot) for slot in (-9 * FAR - 1, -9 * FAR, -FAR - 1, -FAR, FAR - 1, FAR, 9 * FAR)]
        self.assertEqual(found, [None, 0, 0, None, None, 1, None])

    def test_document(self):
        scene = document_scene()
        self.assertEqual((scene.slot_of(1, 2), scene.attempt_in(0, 5), scene.outage_at(-1)), (3, 1, 0))

    def test_arguments_by_name(self):
        scene = document_scene()
        self.assertEqual(scene.slot_of(attempt=2, client=1), 3)
        self.assertEqual(scene.attempt_in(slot=5, client=0), 1)
        self.assertEqual(scene.outage_at(slot=-1), 0)


class WrongPlaces(unittest.TestCase):
    def test_clients(self):
        for client in [*no_integers(), -1, -2, 2, 3, 40, FAR, -FAR]:
            for call in (document_scene().slot_of, document_scene().attempt_in):
                for other in (0, None, 99, []):
                    error = attempt_call(self, InvalidClient, call, client, other)
                    self.assertEqual(list(vars(error)), ["client"])
                    self.assertIs(error.client, client)

    def test_attempts(self):
        for attempt in [*no_integers(), -1, 3, FAR]:
            error = attempt_call(self, InvalidAttempt, document_scene().slot_of, 1, attempt)
            self.assertEqual(list(vars(error)), ["attempt"])
            self.assertIs(error.attempt, attempt)

    def test_limit_of_growing_gaps(self):
        scene = Scene(DOUBLED, [-5])
        self.assertEqual(scene.slot_of(0, 1000), 2 ** 1000 - 6)
        for attempt in (1001, FAR):
            self.assertEqual(vars(attempt_call(self, LimitExceeded, scene.slot_of, 0, attempt)), {"limit": 1000})
        self.assertEqual(scene.attempt_in(0, 2 ** 1001 - 6), 1001)
        attempt_call(self, InvalidAttempt, scene.slot_of, 0, -1)

    def test_slots(self):
        scene = document_scene()
        for slot in no_integers():
            for call, arguments in ((scene.attempt_in, (0, slot)), (scene.outage_at, (slot,))):
                error = attempt_call(self, InvalidSlot, call, *arguments)
                self.assertEqual(list(vars(error)), ["slot"])
                self.assertIs(error.slot, slot)


if __name__ == "__main__":
    unittest.main()
