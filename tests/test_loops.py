"""Points 46 to 50: clients that block one another, with rules whose gaps repeat."""

import random
import unittest
from itertools import combinations

from retryslots import loops
from retryslots.errors import InvalidBound, InvalidRule, InvalidScene, InvalidSlot, LimitExceeded
from retryslots.loops import (
    blocked_clients, fewest_removed, is_closed, loop_distances, meets_forever, next_service, service_order,
)
from retryslots.reasons import is_closed as is_closed_from
from retryslots.rules import Rule
from retryslots.runs import Run
from retryslots.scenes import Scene
from tests.changes import FAR
from tests.samples import check_fields, endless_list, no_integers

FUNCTIONS = ["loop_distances", "meets_forever", "blocked_clients", "is_closed", "next_service", "service_order",
             "fewest_removed"]
ROUND = Rule([4, 1, 2], ("repeat", 2))
EVEN = Rule([2], ("repeat", 1))
WIDE = Rule([10 ** 12 - at * at for at in range(20)], ("repeat", 20))
OTHERS = [Rule([], ("end",)), Rule([4, 1, 2], ("end",)), Rule([4, 1, 2], ("times", 2)), Rule([1], ("times", 1000))]


def small_loops(many, seed, clients=6):
    """Return tuples (rule, starts) with gaps that repeat, the same ones for the same numbers."""
    chance = random.Random(seed)
    found = []
    for _ in range(many):
        gaps = [chance.randint(1, chance.choice((2, 3, 6))) for _ in range(chance.randint(1, 5))]
        rule = Rule(gaps, ("repeat", chance.randint(1, len(gaps))))
        found.append((rule, [chance.randint(-9, 9) for _ in range(chance.randint(1, clients))]))
    return found


def repeating(rule):
    """Return the offsets of the first attempts that repeat."""
    first = len(rule.gaps()) - rule.tail()[1]
    return [rule.offset(attempt) for attempt in range(first, len(rule.gaps()))]


def residues(rule, start):
    """Return the residues of the attempts of a client that repeat."""
    return [(start + offset) % rule.period() for offset in repeating(rule)]


def stepped_closed(rule, starts, members):
    """Tell whether every residue of a member is one of another member."""
    return all(any(residue in residues(rule, starts[other]) for other in members if other != member)
               for member in members for residue in residues(rule, starts[member]))


def stepped_blocked(rule, starts):
    """Return the union of all closed sets, by trying all sets."""
    found = set()
    for many in range(len(starts) + 1):
        for members in combinations(range(len(starts)), many):
            if stepped_closed(rule, starts, members):
                found |= set(members)
    return sorted(found)


def stepped_order(rule, starts, slot, length, last):
    """Return the services from a slot on up to a last one, slot by slot."""
    left, free, found = list(range(len(starts))), slot, []
    for now in range(slot, last):
        clients = [client for client in left if now % rule.period() in residues(rule, starts[client])]
        if now >= free and len(clients) == 1:
            found.append((now, clients[0]))
            left.remove(clients[0])
            free = now + length
    return found


def repeated_from(rule, starts):
    """Return the least slot from which the attempts of all clients repeat."""
    return max(starts) + repeating(rule)[0]


def no_starts_lists():
    """Return tuples of an object that is not a list of the starts of clients, and the index of its error."""
    kinds = [value for value in no_integers() if not isinstance(value, list)]
    found = [(value, -1) for value in [*kinds, 0, (0,), {0: 1}, range(2), [], [0] * 41, [None] * 41]]
    for wrong in no_integers():
        found += [([wrong], 0), ([0, 0, wrong, wrong], 2), ([0] * 39 + [wrong], 39)]
    return [*found, (endless_list(), 0)]


class Interface(unittest.TestCase):
    def test_functions_are_defined_in_the_file(self):
        for name in FUNCTIONS:
            self.assertEqual(getattr(loops, name).__module__, "retryslots.loops")
        self.assertIsNot(is_closed, is_closed_from)

    def test_arguments_by_name(self):
        self.assertEqual(loop_distances(rule=ROUND), [0, 1, 2])
        self.assertIs(meets_forever(distance=1, rule=EVEN), False)
        self.assertEqual(blocked_clients(starts=[0, 1], rule=ROUND), [])
        self.assertIs(is_closed(value=[0, 1], starts=[0, 2], rule=EVEN), True)
        self.assertEqual(next_service(slot=20, starts=[0, 1], rule=ROUND), (21, 1))
        self.assertEqual(service_order(length=3, slot=20, starts=[0, 1], rule=ROUND), [(21, 1), (25, 0)])
        self.assertEqual(fewest_removed(starts=[0, 1, 2], rule=ROUND), [0])


class Tails(unittest.TestCase):
    def test_another_tail(self):
        for rule in OTHERS:
            check_fields(self, InvalidRule("tail"), loop_distances, rule)
            check_fields(self, InvalidRule("tail"), meets_forever, rule, None)
            check_fields(self, InvalidRule("tail"), blocked_clients, rule, None)
            check_fields(self, InvalidRule("tail"), is_closed, rule, None, None)
            check_fields(self, InvalidRule("tail"), next_service, rule, None, None)
            check_fields(self, InvalidRule("tail"), service_order, rule, None, None, None)
            check_fields(self, InvalidRule("tail"), fewest_removed, rule, [0] * 11)


class Starts(unittest.TestCase):
    def test_wrong_starts(self):
        for starts, at in no_starts_lists():
            check_fields(self, InvalidScene("starts", at), blocked_clients, EVEN, starts)
            check_fields(self, InvalidScene("starts", at), is_closed, EVEN, starts, None)
            check_fields(self, InvalidScene("starts", at), next_service, EVEN, starts, None)
            check_fields(self, InvalidScene("starts", at), service_order, EVEN, starts, None, None)
            check_fields(self, InvalidScene("starts", at), fewest_removed, EVEN, starts)

    def test_one_start_and_forty(self):
        self.assertEqual(blocked_clients(EVEN, [7]), [])
        self.assertEqual(next_service(EVEN, [7], 8), (9, 0))
        self.assertEqual(service_order(EVEN, [7], 8, 5), [(9, 0)])
        self.assertEqual(fewest_removed(EVEN, [7]), [])
        for starts in ([7] * 40, [2 * at for at in range(40)]):
            self.assertEqual(blocked_clients(EVEN, starts), [(0, (1,))] + [(at, (0,)) for at in range(1, 40)])
            self.assertIs(is_closed(EVEN, starts, list(range(40))), True)
            self.assertIsNone(next_service(EVEN, starts, 100))
            self.assertEqual(service_order(EVEN, starts, 100, 1), [])


class Distances(unittest.TestCase):
    def test_document(self):
        self.assertEqual(loop_distances(ROUND), [0, 1, 2])
        self.assertIs(meets_forever(Rule([7, 2], ("repeat", 1)), -4), True)

    def test_small_loops(self):
        for rule, _ in small_loops(300, 91):
            period = rule.period()
            expected = [distance for distance in range(period)
                        if set(residues(rule, 0)) & set(residues(rule, distance))]
            self.assertEqual(loop_distances(rule), expected)
            for distance in range(-2 * period, 2 * period + 1):
                self.assertIs(meets_forever(rule, distance), distance % period in expected)

    def test_few_distances(self):
        self.assertEqual(loop_distances(EVEN), [0])
        self.assertEqual(loop_distances(Rule([1], ("repeat", 1))), [0])
        self.assertEqual(loop_distances(Rule([9, 1, 6], ("repeat", 2))), [0, 1, 6])
        self.assertEqual(loop_distances(Rule([10 ** 12, 3], ("repeat", 2))), [0, 3, 10 ** 12])
        self.assertEqual(len(loop_distances(Rule([2 ** at for at in range(20)], ("repeat", 20)))), 381)

    def test_infinitely_many_shared_slots(self):
        for rule, _ in small_loops(60, 92):
            for distance in range(12):
                # Two clients that share a slot far behind everything share one in every period.
                late = [10 ** 12 * rule.period() + offset for offset in residues(rule, 0)]
                shared = [slot for slot in late if rule.attempt_at(slot - distance) is not None]
                self.assertIs(meets_forever(rule, distance), bool(shared))

    def test_long_numbers(self):
        rule = Rule([10 ** 12, 3], ("repeat", 2))
        period = 10 ** 12 + 3
        for many in (0, 1, -1, 10 ** 17, -10 ** 17):
            for residue in (0, 3, 10 ** 12):
                self.assertIs(meets_forever(rule, many * period + residue), True)
            for residue in (1, 2, 4, -1, -4):
                self.assertIs(meets_forever(rule, many * period + residue), False)

    def test_no_integers(self):
        for wrong in no_integers():
            check_fields(self, InvalidSlot(wrong), meets_forever, ROUND, wrong)


class Blocked(unittest.TestCase):
    def test_document(self):
        self.assertEqual(blocked_clients(ROUND, [0, 1, 2]), [(0, (2, 1)), (1, (0, 2)), (2, (1, 0))])
        self.assertEqual(blocked_clients(ROUND, [0, 1]), [])

    def test_small_sets(self):
        found = {True: 0, False: 0}
        for rule, starts in small_loops(500, 93):
            clients = stepped_blocked(rule, starts)
            expected = []
            for client in clients:
                partners = [min(other for other in clients if other != client
                                and residue in residues(rule, starts[other]))
                            for residue in residues(rule, starts[client])]
                expected.append((client, tuple(partners)))
            self.assertEqual(blocked_clients(rule, starts), expected, (rule.gaps(), rule.tail(), starts))
            found[clients == []] += 1
        self.assertGreater(min(found.values()), 100)

    def test_partners_are_members(self):
        # Client 0 has a residue of client 2, but belongs to no closed set.
        rule = Rule([1, 5], ("repeat", 2))
        self.assertEqual(blocked_clients(rule, [-1, 0, 0]), [(1, (2, 2)), (2, (1, 1))])

    def test_forty_clients(self):
        starts = [at % 20 for at in range(40)]
        found = blocked_clients(WIDE, starts)
        self.assertEqual([client for client, partners in found], list(range(40)))
        self.assertTrue(all(len(partners) == 20 and client not in partners for client, partners in found))
        self.assertEqual(blocked_clients(WIDE, list(range(0, 40 * 10 ** 6, 10 ** 6))), [])

    def test_starts_of_thirty_digits(self):
        period = WIDE.period()
        many = FAR // period
        found = blocked_clients(WIDE, [-7, many * period - 7, 5, -many * period - 7])
        self.assertEqual(found, [(0, (1,) * 20), (1, (0,) * 20), (3, (0,) * 20)])
        self.assertEqual(blocked_clients(ROUND, [-3 * FAR, 1 + 3 * FAR, 2 - 3 * 10 ** 20]),
                         [(0, (2, 1)), (1, (0, 2)), (2, (1, 0))])

    def test_clients_in_another_order(self):
        chance = random.Random(94)
        for rule, starts in small_loops(200, 95):
            order = chance.sample(range(len(starts)), len(starts))
            found = [client for client, _ in blocked_clients(rule, [starts[client] for client in order])]
            self.assertEqual(sorted(order[client] for client in found),
                             [client for client, _ in blocked_clients(rule, starts)])

    def test_moved_and_multiplied(self):
        for rule, starts in small_loops(100, 96):
            expected = blocked_clients(rule, starts)
            for more in (1, -FAR):
                self.assertEqual(blocked_clients(rule, [start + more for start in starts]), expected)
            wide = Rule([7 * gap for gap in rule.gaps()], rule.tail())
            self.assertEqual(blocked_clients(wide, [7 * start for start in starts]), expected)
            self.assertEqual(loop_distances(wide), [7 * distance for distance in loop_distances(rule)])


class IsClosed(unittest.TestCase):
    def test_small_sets(self):
        found = {True: 0, False: 0}
        for rule, starts in small_loops(200, 97, 5):
            for many in range(len(starts) + 1):
                for members in combinations(range(len(starts)), many):
                    expected = stepped_closed(rule, starts, members)
                    self.assertIs(is_closed(rule, starts, list(members)), expected)
                    found[expected] += 1
        self.assertGreater(min(found.values()), 300)

    def test_empty_list(self):
        self.assertIs(is_closed(ROUND, [0], []), True)

    def test_as_in_a_scene(self):
        for rule, starts in small_loops(200, 98):
            for members in (list(range(len(starts))), [0, len(starts) - 1]):
                if len(set(members)) == len(members) and len(members) > 1:
                    self.assertIs(is_closed(rule, starts, members),
                                  is_closed_from(Scene(rule, starts), repeated_from(rule, starts), members))

    def test_order(self):
        self.assertIs(is_closed(ROUND, [0, 1, 2], [0, 1, 2]), True)
        for value in ([0, 2, 1], [2, 1, 0], [0, 0, 1, 2], [0, 1, 2, 2], [0, 1, 1, 2]):
            self.assertIs(is_closed(ROUND, [0, 1, 2], value), False)

    def test_other_objects(self):
        values = [value for value in no_integers() if not isinstance(value, list) or value]
        values += [0, 1, (0, 1), {0: 1}, {0, 1}, range(2), "01", [0], [0, 2], [-1, 0], [0, 1, 2], [0, FAR],
                   endless_list()]
        for wrong in no_integers():
            values += [[wrong], [0, wrong], [wrong, 1], [0, 1, wrong]]
        for value in values:
            self.assertIs(is_closed(EVEN, [0, 2], value), False)
        self.assertIs(is_closed(EVEN, [0, 2], [0, 1]), True)


class Services(unittest.TestCase):
    def test_document(self):
        self.assertEqual(next_service(ROUND, [0, 1], 20), (21, 1))
        self.assertEqual(service_order(ROUND, [0, 1], 20, 3), [(21, 1), (25, 0)])

    def test_small_loops(self):
        for rule, starts in small_loops(300, 99):
            for slot in (repeated_from(rule, starts), repeated_from(rule, starts) + 5):
                for length in (1, 2, 3, 7, 20):
                    last = slot + (len(starts) + 1) * (length + rule.period())
                    expected = stepped_order(rule, starts, slot, length, last)
                    self.assertEqual(service_order(rule, starts, slot, length), expected)
                    self.assertEqual(next_service(rule, starts, slot), expected[0] if expected else None)

    def test_as_in_a_run(self):
        for rule, starts in small_loops(200, 100):
            slot = repeated_from(rule, starts)
            for length in (1, 4):
                scene = Scene(rule, starts, outages=[(min(starts) - 1, slot)], length=length)
                self.assertEqual(service_order(rule, starts, slot, length), Run(scene).order())

    def test_who_is_not_served(self):
        for rule, starts in small_loops(300, 101):
            blocked = [client for client, _ in blocked_clients(rule, starts)]
            for length in (1, 2, 9, 10 ** 20):
                served = [client for _, client in service_order(rule, starts, repeated_from(rule, starts), length)]
                self.assertEqual(sorted(served + blocked), list(range(len(starts))))

    def test_long_services(self):
        length = 10 ** 20
        found = service_order(ROUND, [0, 1], 20, length)
        self.assertEqual(found[0], (21, 1))
        self.assertEqual(found[1][1], 0)
        self.assertIn(found[1][0] - 21 - length, range(3))
        self.assertIn(found[1][0] % 3, (1, 2))
        found = service_order(WIDE, list(range(40)), FAR, length)
        self.assertEqual(sorted(client for _, client in found), list(range(40)))
        for (one, _), (other, _) in zip(found, found[1:]):
            self.assertIn(other - one - length, range(WIDE.period()))

    def test_least_slot(self):
        self.assertEqual(next_service(ROUND, [0, 1], 5), (6, 1))
        self.assertEqual(next_service(ROUND, [-FAR], 4 - FAR), (4 - FAR, 0))
        for starts, least in (([0, 1], 5), ([FAR, -FAR], FAR + 4), ([0], 4)):
            next_service(ROUND, starts, least)
            service_order(ROUND, starts, least, 1)
            for slot in (least - 1, least - 5, -2 * FAR):
                check_fields(self, InvalidSlot(slot), next_service, ROUND, starts, slot)
                check_fields(self, InvalidSlot(slot), service_order, ROUND, starts, slot, None)

    def test_no_integers(self):
        for wrong in no_integers():
            check_fields(self, InvalidSlot(wrong), next_service, ROUND, [0], wrong)
            check_fields(self, InvalidSlot(wrong), service_order, ROUND, [0], wrong, wrong)

    def test_lengths(self):
        for wrong in [*no_integers(), 0, -1, -FAR]:
            check_fields(self, InvalidBound("length"), service_order, ROUND, [0], 20, wrong)

    def test_moved_and_multiplied(self):
        for rule, starts in small_loops(60, 102):
            slot = repeated_from(rule, starts)
            expected = service_order(rule, starts, slot, 3)
            far = service_order(rule, [start + FAR for start in starts], slot + FAR, 3)
            self.assertEqual(far, [(begin + FAR, client) for begin, client in expected])
            wide = service_order(Rule([7 * gap for gap in rule.gaps()], rule.tail()), [7 * start for start in starts],
                                 7 * slot, 21)
            self.assertEqual(wide, [(7 * begin, client) for begin, client in expected])


class FewestRemoved(unittest.TestCase):
    def test_document(self):
        self.assertEqual(fewest_removed(ROUND, [0, 1, 2]), [0])

    def test_small_sets(self):
        lengths = {}
        for rule, starts in small_loops(400, 103):
            for many in range(len(starts) + 1):
                fitting = [list(removed) for removed in combinations(range(len(starts)), many)
                           if self.nothing_is_left(rule, starts, removed)]
                if fitting:
                    self.assertEqual(fewest_removed(rule, starts), min(fitting), (rule.gaps(), rule.tail(), starts))
                    lengths[many] = lengths.get(many, 0) + 1
                    break
        self.assertGreater(len(lengths), 3)

    def nothing_is_left(self, rule, starts, removed):
        left = [start for client, start in enumerate(starts) if client not in removed]
        return not left or stepped_blocked(rule, left) == []

    def test_equal_starts(self):
        self.assertEqual(fewest_removed(EVEN, [0, 1, 0, 2, 3]), [0, 1, 2])
        self.assertEqual(fewest_removed(EVEN, [5] * 10), list(range(9)))
        self.assertEqual(fewest_removed(EVEN, [0, 1]), [])

    def test_ten_starts_and_more(self):
        starts = [at // 2 for at in range(10)]
        self.assertEqual(fewest_removed(WIDE, starts), [0, 2, 4, 6, 8])
        self.assertEqual(fewest_removed(WIDE, [start + 10 ** 16 * WIDE.period() for start in starts]), [0, 2, 4, 6, 8])
        for many in (11, 40):
            check_fields(self, LimitExceeded(10), fewest_removed, EVEN, [0] * many)
            check_fields(self, LimitExceeded(10), fewest_removed, EVEN, list(range(many)))
        check_fields(self, InvalidScene("starts", 10), fewest_removed, EVEN, [0] * 10 + [None])
        check_fields(self, InvalidScene("starts", -1), fewest_removed, EVEN, [0] * 41)


class Copies(unittest.TestCase):
    def test_lists_that_were_passed_in(self):
        starts, value = [0, 1, 2], [0, 1, 2]
        blocked_clients(ROUND, starts).clear()
        is_closed(ROUND, starts, value)
        service_order(ROUND, starts, 20, 1).append(1)
        fewest_removed(ROUND, starts).append(5)
        self.assertEqual((starts, value), ([0, 1, 2], [0, 1, 2]))

    def test_lists_that_were_returned(self):
        for _ in range(2):
            found = [loop_distances(ROUND), blocked_clients(ROUND, [0, 1, 2]), service_order(ROUND, [0, 1], 20, 3),
                     fewest_removed(ROUND, [0, 1, 2])]
            self.assertEqual(found, [[0, 1, 2], [(0, (2, 1)), (1, (0, 2)), (2, (1, 0))], [(21, 1), (25, 0)], [0]])
            for held in found:
                held.clear()


if __name__ == "__main__":
    unittest.main()
